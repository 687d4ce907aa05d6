// Package sign is layer 1: see shared/doc/01-sign.md.
package sign

import (
	"strings"
	"unicode/utf8"
)

// Wrong stands for what is no sign.
const Wrong = '\uFFFD'

// Next is the sign that b begins with, and how many bytes that has.
func Next(b []byte) (r rune, n int) {
	// No sign has more bytes than UTFMax: a long b is not copied whole for its first one.
	s := string(b[:min(len(b), utf8.UTFMax)])
	for at, x := range s {
		if at > 0 {
			return r, at
		}
		r = x
	}
	return r, len(s)
}

// Runes is all signs of b.
func Runes(b []byte) []rune {
	var signs []rune
	for _, r := range string(b) {
		signs = append(signs, r)
	}
	return signs
}

// Clean is the bytes of all signs of b.
func Clean(b []byte) string {
	var clean strings.Builder
	for _, r := range string(b) {
		clean.WriteRune(r)
	}
	return clean.String()
}

// Whole says whether no bytes behind b change what Next tells of it.
func Whole(b []byte) bool {
	return utf8.FullRune(b)
}

// Feed takes bytes one by one. What waits is a string, so that a copy of a feed shares nothing with it.
type Feed struct {
	waiting string
}

// Put takes a byte, and tells the signs that are whole with it.
func (f *Feed) Put(x byte) []rune {
	b := append([]byte(f.waiting), x)
	var signs []rune
	for Whole(b) {
		r, n := Next(b)
		signs = append(signs, r)
		b = b[n:]
	}
	f.waiting = string(b)
	return signs
}

// Flush tells what waits, as it is.
func (f *Feed) Flush() []rune {
	signs := Runes([]byte(f.waiting))
	f.waiting = ""
	return signs
}

// Waits says whether something waits.
func (f *Feed) Waits() bool {
	return f.waiting != ""
}
