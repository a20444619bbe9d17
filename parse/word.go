package parse

import (
	"math"
	"strconv"
	"strings"

	"reliquary/lines"
	"reliquary/num"
)

// open is the word of a bound that bounds nothing.
const open = "*"

// reader takes the words of a line one after the other and sets fields by them.
type reader struct {
	words *lines.Words
}

func (r *reader) name(to *string) {
	// A name that is kept must not hold on to its line.
	*to = strings.Clone(r.words.Name())
}

func (r *reader) bound(to *string) {
	r.name(to)
	if *to == open {
		*to = ""
	}
}

func (r *reader) score(to *float64) {
	*to = r.words.Score()
	r.words.Ask(!math.IsNaN(*to))
}

func (r *reader) number(to *int) {
	*to = r.words.Number()
}

// writer makes words of fields.
type writer struct {
	words []string
	bad   bool // a field has no word
}

func (w *writer) word(s string, ok bool) {
	if !ok {
		w.bad = true
		return
	}
	w.words = append(w.words, s)
}

func (w *writer) name(of *string) {
	w.word(*of, lines.IsName(*of))
}

func (w *writer) bound(of *string) {
	if *of == "" {
		w.word(open, true)
		return
	}
	// Its word would be read as that of no bound.
	w.word(*of, lines.IsName(*of) && *of != open)
}

func (w *writer) score(of *float64) {
	w.word(num.Text(*of), !math.IsNaN(*of))
}

func (w *writer) number(of *int) {
	w.word(strconv.Itoa(*of), lines.IsNumber(*of))
}
