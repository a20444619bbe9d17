package core

import "reliquary/rec"

// A value of few bytes stands in the tree's word itself: one more than how many they are uppermost, so that the word is no place, then the bytes, the first one the lowest. Others are records, and the word the place.
const (
	fewBytes = 7
	fewShift = 56
	byteBits = 8
)

// kept is the word by which a value is found again.
func (c *Core) kept(value []byte) uint64 {
	if len(value) > fewBytes {
		return uint64(rec.Make(c.s, c.h, value))
	}
	return fewWord(value)
}

// value is the bytes that were kept. It panics with api.ErrForm, if none were.
func (c *Core) value(w uint64) []byte {
	if at, is := recordOf(w); is {
		return rec.Read(c.s, c.h, at)
	}
	n := int(w>>fewShift) - 1
	mustBe(n <= fewBytes)
	b := make([]byte, n)
	for i := range b {
		b[i] = byte(w >> (i * byteBits))
	}
	mustBe(fewWord(b) == w)
	return b
}

func fewWord(value []byte) uint64 {
	w := uint64(len(value)+1) << fewShift
	for i, b := range value {
		w |= uint64(b) << (i * byteBits)
	}
	return w
}

// recordOf tells the place of the record that a value is, if it is one.
func recordOf(w uint64) (int, bool) {
	if w>>fewShift != 0 {
		return 0, false
	}
	return int(w), true
}
