// Package token is layer 1: it splits a source text into tokens.
package token

import (
	"strconv"
	"strings"

	"interleave/api"
)

// IsKeyword reports whether s is a keyword.
func IsKeyword(s string) bool {
	switch s {
	case "var", "volatile", "mutex", "rwlock", "cond", "future", "thread",
		"if", "else", "while", "lock", "read", "write", "transaction", "atomic",
		"wait", "notify", "notifyall", "spawn", "join", "set", "get":
		return true
	}
	return false
}

// IsName reports whether s is a name.
func IsName(s string) bool {
	return s != "" && len(s) <= api.MaxName && wordLength(s) == len(s) && !IsKeyword(s)
}

// Scan returns the tokens of s, or an error and its line.
func Scan(s string) ([]api.Token, api.Errno, int) {
	if len(s) > api.MaxSource {
		return nil, api.ErrTooLarge, 0
	}
	var tokens []api.Token
	line := 1
	for len(s) > 0 {
		if n := gapLength(s); n > 0 {
			line += strings.Count(s[:n], "\n")
			s = s[n:]
			continue
		}
		kind, n, err := first(s)
		if err != api.OK {
			return nil, err, line
		}
		// A substring would keep the whole source text alive.
		text := strings.Clone(s[:n])
		tokens = append(tokens, api.Token{Kind: kind, Text: text, Line: line})
		s = s[n:]
	}
	return tokens, api.OK, 0
}

// first returns the kind and the length of the token that begins s.
func first(s string) (int, int, api.Errno) {
	if n := wordLength(s); n > 0 {
		return word(s[:n])
	}
	if n := digitsLength(s); n > 0 {
		return number(s[:n], s[n:])
	}
	if n := signLength(s); n > 0 {
		return api.TSign, n, api.OK
	}
	return 0, 0, api.ErrSyntax
}

// word returns the kind and the length of the word s.
func word(s string) (int, int, api.Errno) {
	if len(s) > api.MaxName {
		return 0, 0, api.ErrTooLarge
	}
	if IsKeyword(s) {
		return api.TKeyword, len(s), api.OK
	}
	return api.TName, len(s), api.OK
}

// number returns the kind and the length of the number digits, which rest follows.
func number(digits, rest string) (int, int, api.Errno) {
	if rest != "" && isWordPart(rune(rest[0])) {
		return 0, 0, api.ErrSyntax
	}
	if _, err := strconv.ParseInt(digits, 10, 64); err != nil {
		return 0, 0, api.ErrSyntax
	}
	return api.TNumber, len(digits), api.OK
}

// gapLength returns the length of the blank or the comment that begins s, or 0.
func gapLength(s string) int {
	if strings.HasPrefix(s, "//") {
		if n := strings.IndexByte(s, '\n'); n >= 0 {
			return n
		}
		return len(s)
	}
	switch s[0] {
	case ' ', '\t', '\r', '\n':
		return 1
	}
	return 0
}

// wordLength returns the length of the word that begins s, or 0.
func wordLength(s string) int {
	for i, c := range s {
		if i == 0 && !isLetter(c) || !isWordPart(c) {
			return i
		}
	}
	return len(s)
}

// digitsLength returns the number of digits that begin s.
func digitsLength(s string) int {
	for i, c := range s {
		if !isDigit(c) {
			return i
		}
	}
	return len(s)
}

// signLength returns the length of the longest sign that begins s, or 0.
func signLength(s string) int {
	if len(s) >= 2 {
		switch s[:2] {
		case "||", "&&", "==", "!=", "<=", ">=":
			return 2
		}
	}
	if strings.IndexByte("<>+-*/%!=()[]{},;", s[0]) >= 0 {
		return 1
	}
	return 0
}

func isLetter(c rune) bool {
	return 'a' <= c && c <= 'z' || 'A' <= c && c <= 'Z'
}

func isDigit(c rune) bool {
	return '0' <= c && c <= '9'
}

func isWordPart(c rune) bool {
	return isLetter(c) || isDigit(c) || c == '_'
}
