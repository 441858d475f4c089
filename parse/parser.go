package parse

import (
	"strconv"

	"interleave/api"
)

// parser reads tokens from left to right. At the first token that does not fit it fails: from then on it stays there and sees no token, so that all its methods return soon.
type parser struct {
	tokens []api.Token
	next   int
	failed bool
}

// peek returns the next token, or the zero token if there is none.
func (p *parser) peek() api.Token {
	if p.failed || p.next == len(p.tokens) {
		return api.Token{}
	}
	return p.tokens[p.next]
}

// pass returns the next token and goes on behind it. There is one: the caller has seen it.
func (p *parser) pass() api.Token {
	t := p.peek()
	p.next++
	return t
}

func (p *parser) fail() {
	p.failed = true
}

// skip goes on behind the keyword or sign text if it is next, and reports whether it was.
func (p *parser) skip(text string) bool {
	if p.peek().Text != text {
		return false
	}
	p.pass()
	return true
}

// expect goes on behind the keyword or sign text.
func (p *parser) expect(text string) {
	if !p.skip(text) {
		p.fail()
	}
}

func (p *parser) name() string {
	if p.peek().Kind != api.TName {
		p.fail()
		return ""
	}
	return p.pass().Text
}

// number reads a number that is at least least.
func (p *parser) number(least int64) int64 {
	t := p.peek()
	// There is no other error than a token of another kind: Scan refuses numbers that are too great.
	n, err := strconv.ParseInt(t.Text, 10, 64)
	if err != nil || n < least {
		p.fail()
		return 0
	}
	p.pass()
	return n
}

// line returns the line of the token that does not fit, or of the last one if the tokens end too early.
func (p *parser) line() int {
	if len(p.tokens) == 0 {
		return 1
	}
	return p.tokens[min(p.next, len(p.tokens)-1)].Line
}
