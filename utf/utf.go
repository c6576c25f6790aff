// Package utf is layer 1, characters and their bytes: see shared/doc/01-utf.md.
package utf

import (
	"strings"

	"abacist/api"
)

// Numbers that are no characters: halves of pairs, in texts of 16-bit units.
const (
	firstHalf = 0xd800
	lastHalf  = 0xdfff
)

// longest is how many bytes a character has at most.
const longest = 4

// May tells whether a number is a character.
func May(c int) bool {
	return 0 <= c && c <= api.MaxChar && (c < firstHalf || lastHalf < c)
}

// Encode is a character's bytes.
func Encode(c int) string {
	// Asked first, as a rune would lose what is above its 32 bits.
	if !May(c) {
		return ""
	}
	return string(rune(c))
}

// First is a text's first character.
func First(s string) (int, int, bool) {
	for _, r := range s {
		if spoilt(s, r) {
			return api.Spoilt, 1, false
		}
		return int(r), len(string(r)), true
	}
	return 0, 0, false
}

// Last is a text's last character.
func Last(s string) (int, int, bool) {
	if s == "" {
		return 0, 0, false
	}
	// No character's bytes begin within another one's: a character that ends
	// the text is one of the text's, whatever stands ahead of it.
	for n := min(longest, len(s)); n > 0; n-- {
		if c, has, is := First(s[len(s)-n:]); is && has == n {
			return c, n, true
		}
	}
	return api.Spoilt, 1, false
}

// All is a text's characters.
func All(s string) []int {
	l := make([]int, 0, Len(s))
	for _, r := range s {
		l = append(l, int(r))
	}
	return l
}

// Starts is where they begin, and where the text ends.
func Starts(s string) []int {
	l := make([]int, 0, Len(s)+1)
	for at := range s {
		l = append(l, at)
	}
	return append(l, len(s))
}

// Len is how many they are.
func Len(s string) int {
	n := 0
	for range s {
		n++
	}
	return n
}

// Join is characters' bytes.
func Join(l []int) string {
	var b strings.Builder
	for _, c := range l {
		if !May(c) {
			c = api.Spoilt
		}
		b.WriteString(Encode(c))
	}
	return b.String()
}

// Clean is a text without spoilt bytes.
func Clean(s string) string { return Join(All(s)) }

// Valid tells whether no byte is spoilt.
func Valid(s string) bool {
	for at, r := range s {
		if spoilt(s[at:], r) {
			return false
		}
	}
	return true
}

// spoilt tells whether s, of which a range tells r first, begins with a spoilt
// byte. The range tells the character 65533 in the same way: only the bytes
// show which of both stands there.
func spoilt(s string, r rune) bool {
	return r == api.Spoilt && !strings.HasPrefix(s, string(r))
}
