package reply

import (
	"strings"

	"reliquary/api"
	"reliquary/lines"
)

// minus may stand ahead of the number of an answer.
const minus = "-"

// Parse parts the answers that stand one behind the other in s; ErrForm, if s is not such.
func Parse(s string) ([]string, api.Errno) {
	var l []string
	for s != "" {
		r := &reader{rest: s}
		r.answer()
		if r.bad {
			return nil, api.ErrForm
		}
		// An answer that is kept must not hold on to all the others.
		l = append(l, strings.Clone(s[:len(s)-len(r.rest)]))
		s = r.rest
	}
	return l, api.OK
}

// reader goes through an answer, whose first line says what is behind it.
type reader struct {
	rest string // behind what was gone through
	bad  bool   // something was not as it is to be
}

func (r *reader) answer() {
	w := r.line()
	switch w.Next() {
	case okWord, noneWord, yesWord, noWord:
		r.done(w)
	case errWord:
		r.reason(w)
	case valueWord:
		r.value(w)
	case pairsWord:
		r.each(w, r.pair)
	case scoredWord:
		r.each(w, r.member)
	case scoreWord:
		r.scores(w, 1)
	case numberWord:
		r.number(w)
	case numbersWord:
		r.numbers(w)
	case spreadWord:
		w.Number()
		r.scores(w, 4)
	default:
		r.bad = true
	}
}

func (r *reader) ask(right bool) {
	r.bad = r.bad || !right
}

// line takes a line.
func (r *reader) line() *lines.Words {
	line, rest, ended := strings.Cut(r.rest, lineFeed)
	r.rest = rest
	r.ask(ended)
	return lines.Of(line)
}

// done asks that a line is right and has no more words.
func (r *reader) done(w *lines.Words) {
	r.ask(w.Done())
}

// value goes through a length, which ends its line, and so many bytes behind with their line feed.
func (r *reader) value(w *lines.Words) {
	n := w.Number()
	r.done(w)
	if r.bad || len(r.rest) < n {
		r.bad = true
		return
	}
	rest, ended := strings.CutPrefix(r.rest[n:], lineFeed)
	r.rest = rest
	r.ask(ended)
}

// each goes through how many there are, which ends its line, and through so many behind. It ends at the first that is wrong: there may be far fewer than the line says.
func (r *reader) each(w *lines.Words, one func()) {
	n := w.Number()
	r.done(w)
	for ; n > 0 && !r.bad; n-- {
		one()
	}
}

func (r *reader) pair() {
	w := r.line()
	w.Name()
	r.value(w)
}

func (r *reader) member() {
	w := r.line()
	w.Name()
	r.scores(w, 1)
}

// scores goes through so many scores, which end their line.
func (r *reader) scores(w *lines.Words, n int) {
	for range n {
		w.Score()
	}
	r.done(w)
}

func (r *reader) number(w *lines.Words) {
	digits, below := strings.CutPrefix(w.Next(), minus)
	n, ok := lines.Number(digits)
	// Nought has one text: no number is told as -0.
	w.Ask(ok && !(below && n == 0))
	r.done(w)
}

// numbers goes through how many there are and so many behind, all on one line. It ends at the first that is wrong, as each does.
func (r *reader) numbers(w *lines.Words) {
	for n := w.Number(); n > 0 && w.Right(); n-- {
		w.Number()
	}
	r.done(w)
}

// reason goes through the word of an error.
func (r *reader) reason(w *lines.Words) {
	switch w.Next() {
	case syntaxWord, tooBigWord, noSnapWord, fullWord, nanWord, manyWord, deadWord, argWord:
	default:
		r.bad = true
	}
	r.done(w)
}
