// Package lex is layer 1: a phrase's text as tokens.
package lex

import (
	"errors"
	"strconv"
	"strings"

	"trefoil/api"
	"trefoil/quote"
)

var (
	errByte   = errors.New("no token begins so")
	errNumber = errors.New("the number is too great")
	errWord   = errors.New("the word is too long, or there is none")
	errText   = errors.New("the text has no end, or a wrong \\")
	errNote   = errors.New("the note has no end")
)

// fault wraps what is wrong with its place.
type fault struct {
	at  int
	err error
}

func (f *fault) Error() string { return f.err.Error() + ", at " + strconv.Itoa(f.at) }
func (f *fault) Unwrap() error { return f.err }

// Lex is a text's tokens; of an error where it is.
func Lex(text string) ([]api.Token, int, api.Errno) {
	if len(text) > api.MaxText {
		return nil, 0, api.ErrLong
	}
	l, err := tokens(text)
	var f *fault
	if errors.As(err, &f) {
		return nil, f.at, api.ErrLex
	}
	return l, 0, api.OK
}

func tokens(text string) ([]api.Token, error) {
	var l []api.Token
	at := 0
	for {
		start, err := skip(text, at)
		if err != nil {
			return nil, &fault{start, err}
		}
		if start == len(text) {
			return append(l, api.Token{Kind: api.End, At: start}), nil
		}
		t, end, err := token(text, start)
		if err != nil {
			return nil, &fault{start, err}
		}
		t.At = start
		l = append(l, t)
		at = end
	}
}

// skip is the place of the first byte from at on that isn't passed over.
func skip(text string, at int) (int, error) {
	for at < len(text) {
		if isBlank(text[at]) {
			at++
			continue
		}
		if !strings.HasPrefix(text[at:], "(*") {
			break
		}
		n := strings.Index(text[at+2:], "*)")
		if n < 0 {
			return at, errNote
		}
		at += n + 4
	}
	return at, nil
}

// token is the one that begins at a place, without that place, and where it ends.
func token(text string, at int) (api.Token, int, error) {
	switch sortOf(text[at]) {
	case sortWord:
		w, err := word(text, at)
		kind := api.Name
		if IsKey(w) {
			kind = api.Key
		}
		return api.Token{Kind: kind, S: w}, at + len(w), err
	case sortTick:
		w, err := word(text, at+1)
		return api.Token{Kind: api.Tick, S: w}, at + 1 + len(w), err
	case sortDigit:
		end := at
		for end < len(text) && isDigit(text[end]) {
			end++
		}
		n, err := strconv.ParseInt(text[at:end], 10, 64)
		if err != nil {
			err = errNumber
		}
		return api.Token{Kind: api.Int, N: n}, end, err
	case sortText:
		s, end, err := content(text, at+1)
		return api.Token{Kind: api.Str, S: s}, end, err
	}
	s := symbol(text[at:])
	if s == "" {
		return api.Token{}, at, errByte
	}
	return api.Token{Kind: api.Sym, S: s}, at + len(s), nil
}

// What a token's first byte may tell.
const (
	sortOther = iota
	sortWord
	sortDigit
	sortText
	sortTick
)

func sortOf(c byte) int {
	switch {
	case c == '_':
		fallthrough
	case isSmall(c):
		return sortWord
	case isDigit(c):
		return sortDigit
	case c == '"':
		return sortText
	case c == '\'':
		return sortTick
	}
	return sortOther
}

// word is the word that begins at a place.
func word(text string, at int) (string, error) {
	if at == len(text) || sortOf(text[at]) != sortWord {
		return "", errWord
	}
	end := at + 1
	for end < len(text) && (isLetter(text[end]) || isDigit(text[end])) {
		end++
	}
	if end-at > api.MaxName {
		return "", errWord
	}
	return text[at:end], nil
}

// content is what a text tells whose first byte behind its " is at a place, and where it ends.
func content(text string, at int) (string, int, error) {
	var b strings.Builder
	for ; at < len(text); at++ {
		switch c := text[at]; c {
		case '"':
			return b.String(), at + 1, nil
		case '\\':
			at++
			if at == len(text) {
				return "", at, errText
			}
			told, ok := escaped(text[at])
			if !ok {
				return "", at, errText
			}
			b.WriteByte(told)
		default:
			b.WriteByte(c)
		}
	}
	return "", at, errText
}

// escaped is what a byte behind a \ tells.
func escaped(c byte) (byte, bool) {
	switch c {
	case 'n':
		return '\n', true
	case '"', '\\':
		return c, true
	}
	return 0, false
}

// symbol is the longest symbol that a text begins with, "" if none.
func symbol(text string) string {
	for n := min(2, len(text)); n > 0; n-- {
		if isSymbol(text[:n]) {
			return text[:n]
		}
	}
	return ""
}

func isSymbol(s string) bool {
	switch s {
	case "->", "<-", ":>", "..", "{<", ">}":
		return true
	case "(", ")", ":", ";", "=", "<", ">", "+", "-", "*", "/", ",", "#":
		return true
	}
	return false
}

func isSmall(c byte) bool  { return c >= 'a' && c <= 'z' }
func isDigit(c byte) bool  { return c >= '0' && c <= '9' }
func isLetter(c byte) bool { return isSmall(c) || c >= 'A' && c <= 'Z' || c == '_' }
func isBlank(c byte) bool  { return c == ' ' || c == '\t' || c == '\n' || c == '\r' }

// isWord says whether the whole of a text is a word that isn't too long.
func isWord(s string) bool {
	w, err := word(s, 0)
	return err == nil && w == s
}

// IsName says whether a text is a name.
func IsName(s string) bool { return isWord(s) && !IsKey(s) }

// IsKey says whether a text is a word with a meaning of its own.
func IsKey(s string) bool {
	switch s {
	case "and", "as", "class", "else", "end", "false", "fun", "if", "in", "inherit":
		return true
	case "let", "method", "new", "object", "rec", "then", "true", "val", "virtual":
		return true
	}
	return false
}

// Put is a token as a text.
func Put(t api.Token) (string, api.Errno) {
	if t.Kind != api.Int && t.N != 0 {
		return "", api.ErrArg
	}
	ok, text := false, t.S
	switch t.Kind {
	case api.Name:
		ok = IsName(t.S)
	case api.Key:
		ok = IsKey(t.S)
	case api.Sym:
		ok = isSymbol(t.S)
	case api.Tick:
		ok, text = isWord(t.S), "'"+t.S
	case api.Int:
		ok, text = t.N >= 0 && t.S == "", strconv.FormatInt(t.N, 10)
	case api.Str:
		ok, text = quote.Least(t.S) <= api.MaxText, quote.Str(t.S)
	}
	if !ok {
		return "", api.ErrArg
	}
	return text, api.OK
}
