// Package lines reads lines word by word, and says what their words may be. Commands and answers are both made of such lines.
package lines

import (
	"strconv"
	"strings"

	"reliquary/api"
	"reliquary/num"
)

// Blank parts the words of a line.
const Blank = " "

// Of a name each byte is from the first to the last of these: no blank, nothing that is not seen.
const (
	firstByte = 33
	lastByte  = 126
)

// mostNumber is the greatest number of nine digits.
const mostNumber = 999_999_999

// Words are those of a line, taken one after the other.
type Words struct {
	rest string // behind the words that were taken
	more bool   // a word is there yet, be it of no bytes
	bad  bool   // a word was not as it is to be
}

// Of begins ahead of the first word of a line.
func Of(line string) *Words {
	return &Words{rest: line, more: true}
}

// Next takes the next word. One of no bytes stands between two blanks and where none is left: no line has such a one.
func (w *Words) Next() (word string) {
	word, w.rest, w.more = strings.Cut(w.rest, Blank)
	return word
}

// Name takes a key or a name, which lies in the line's memory.
func (w *Words) Name() string {
	s := w.Next()
	if !IsName(s) {
		w.bad = true
		return ""
	}
	return s
}

// Number takes a number.
func (w *Words) Number() int {
	n, ok := Number(w.Next())
	w.Ask(ok)
	return n
}

// Score takes a score, be it no number: whoever may not have that one asks for it.
func (w *Words) Score() float64 {
	x, e := num.Parse(w.Next())
	w.Ask(e == api.OK)
	return x
}

// Ask makes the line wrong for good, if a word of it is not right.
func (w *Words) Ask(right bool) {
	w.bad = w.bad || !right
}

// Right tells whether all words that were taken were as they are to be.
func (w *Words) Right() bool {
	return !w.bad
}

// Done tells whether the line is right and has no more words.
func (w *Words) Done() bool {
	return w.Right() && !w.more
}

// IsName tells whether s may be the word of a key or a name.
func IsName(s string) bool {
	if len(s) < 1 || len(s) > api.MaxName {
		return false
	}
	for i := range len(s) {
		if s[i] < firstByte || s[i] > lastByte {
			return false
		}
	}
	return true
}

// IsNumber tells whether n has a word.
func IsNumber(n int) bool {
	return n >= 0 && n <= mostNumber
}

// Number is the number that a word tells.
func Number(word string) (int, bool) {
	n, err := strconv.Atoi(word)
	// One text a number: told again, signs and noughts ahead show.
	if err != nil || !IsNumber(n) || strconv.Itoa(n) != word {
		return 0, false
	}
	return n, true
}
