// Package quote writes texts as the language's own strings.
package quote

import "strings"

// Str is a text between two ", as a phrase holds it.
func Str(s string) string {
	var b strings.Builder
	b.Grow(len(s) + 2)
	b.WriteByte('"')
	for i := range len(s) {
		switch c := s[i]; c {
		case '\n':
			b.WriteString("\\n")
		case '"', '\\':
			b.WriteByte('\\')
			fallthrough
		default:
			b.WriteByte(c)
		}
	}
	b.WriteByte('"')
	return b.String()
}

// Least is how many bytes the shortest phrase's text of s has: a byte 10 may stand there as it is.
func Least(s string) int {
	return len(s) + 2 + strings.Count(s, "\"") + strings.Count(s, "\\")
}
