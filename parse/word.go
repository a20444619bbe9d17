package parse

import (
	"math"
	"strconv"
	"strings"

	"reliquary/api"
	"reliquary/num"
)

// open is the word of a bound that bounds nothing.
const open = "*"

// Of a name each byte is from the first to the last of these: no blank, nothing that is not seen.
const (
	firstByte = 33
	lastByte  = 126
)

// mostNumber is the greatest number of nine digits.
const mostNumber = 999_999_999

// reader takes the words of a line one after the other and sets fields by them.
type reader struct {
	rest string // behind the words that were taken
	more bool   // a word is there yet, be it of no bytes
	bad  bool   // a word was not as it is to be
}

// word takes the next word. One of no bytes stands between two blanks and where none is left: no field has such a one.
func (r *reader) word() (w string) {
	w, r.rest, r.more = strings.Cut(r.rest, blank)
	return w
}

func (r *reader) name(to *string) {
	w := r.word()
	if !isName(w) {
		r.bad = true
		return
	}
	// A name that is kept must not hold on to its line.
	*to = strings.Clone(w)
}

func (r *reader) bound(to *string) {
	r.name(to)
	if *to == open {
		*to = ""
	}
}

func (r *reader) score(to *float64) {
	x, e := num.Parse(r.word())
	if e != api.OK || math.IsNaN(x) {
		r.bad = true
		return
	}
	*to = x
}

func (r *reader) number(to *int) {
	w := r.word()
	n, err := strconv.Atoi(w)
	// One text a number: told again, signs and noughts ahead show.
	if err != nil || !isNumber(n) || strconv.Itoa(n) != w {
		r.bad = true
		return
	}
	*to = n
}

// writer makes words of fields.
type writer struct {
	words []string
	bad   bool // a field has no word
}

func (w *writer) word(s string, ok bool) {
	if !ok {
		w.bad = true
		return
	}
	w.words = append(w.words, s)
}

func (w *writer) name(of *string) {
	w.word(*of, isName(*of))
}

func (w *writer) bound(of *string) {
	if *of == "" {
		w.word(open, true)
		return
	}
	// Its word would be read as that of no bound.
	w.word(*of, isName(*of) && *of != open)
}

func (w *writer) score(of *float64) {
	w.word(num.Text(*of), !math.IsNaN(*of))
}

func (w *writer) number(of *int) {
	w.word(strconv.Itoa(*of), isNumber(*of))
}

func isName(s string) bool {
	if len(s) < 1 || len(s) > api.MaxName {
		return false
	}
	for i := range len(s) {
		if s[i] < firstByte || s[i] > lastByte {
			return false
		}
	}
	return true
}

func isNumber(n int) bool {
	return n >= 0 && n <= mostNumber
}
