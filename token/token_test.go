package token

import (
	"math/big"
	"regexp"
	"slices"
	"strings"
	"sync"
	"testing"
	"unsafe"

	"interleave/api"
)

const keywords = "var volatile mutex rwlock cond future thread if else while lock read write transaction atomic wait notify notifyall spawn join set get"

const signs = "|| && == != <= >= < > + - * / % ! = ( ) [ ] { } , ;"

func nameAt(s string, line int) api.Token {
	return api.Token{Kind: api.TName, Text: s, Line: line}
}

func numberAt(s string, line int) api.Token {
	return api.Token{Kind: api.TNumber, Text: s, Line: line}
}

func keywordAt(s string, line int) api.Token {
	return api.Token{Kind: api.TKeyword, Text: s, Line: line}
}

func signAt(s string, line int) api.Token {
	return api.Token{Kind: api.TSign, Text: s, Line: line}
}

func wantTokens(t *testing.T, s string, want ...api.Token) {
	t.Helper()
	got, e, line := Scan(s)
	if e != api.OK || line != 0 {
		t.Errorf("Scan(%.40q): error %d, line %d", s, e, line)
	} else if !slices.Equal(got, want) {
		t.Errorf("Scan(%.40q) = %v, want %v", s, got, want)
	}
}

func wantError(t *testing.T, s string, e api.Errno, line int) {
	t.Helper()
	got, gotE, gotLine := Scan(s)
	if gotE != e || gotLine != line || len(got) != 0 {
		t.Errorf("Scan(%.40q) = %v, error %d, line %d; want error %d, line %d", s, got, gotE, gotLine, e, line)
	}
}

// P1.1

func TestKeywords(t *testing.T) {
	l := strings.Fields(keywords)
	if len(l) != 22 {
		t.Fatalf("%d keywords", len(l))
	}
	for _, s := range l {
		if !IsKeyword(s) {
			t.Errorf("IsKeyword(%q) is false", s)
		}
		others := []string{s + " ", " " + s, s + "x", s[1:], strings.ToUpper(s), strings.ToUpper(s[:1]) + s[1:], s + "\x00", s + s}
		for _, o := range others {
			if IsKeyword(o) && !slices.Contains(l, o) {
				t.Errorf("IsKeyword(%q) is true", o)
			}
		}
	}
	for _, s := range []string{"", " ", "x", "begin", "end", "for", "read write", "rw", "not", "notifyAll", "=", "1", "\xff"} {
		if IsKeyword(s) {
			t.Errorf("IsKeyword(%q) is true", s)
		}
	}
}

func TestOtherWordsAreNoKeywords(t *testing.T) {
	l := strings.Fields(keywords)
	var visit func(s string)
	visit = func(s string) {
		if IsKeyword(s) != slices.Contains(l, s) {
			t.Errorf("IsKeyword(%q) is %v", s, IsKeyword(s))
		}
		for c := byte('a'); c <= 'z' && len(s) < 4; c++ {
			visit(s + string(c))
		}
	}
	visit("")
	for _, s := range strings.Fields("array break const continue unlock return signal broadcast commit abort retry yield acquire release reader writer condition barrier promise await async assert print false local shared state begin") {
		if IsKeyword(s) {
			t.Errorf("IsKeyword(%q) is true", s)
		}
	}
}

// P1.2

func TestNames(t *testing.T) {
	for _, s := range []string{"a", "z", "A", "Z", "x9", "x0", "x_", "x__1", "aZ_09", "iff", "If", "VAR", "notifyall1", "getset", strings.Repeat("n", api.MaxName)} {
		if !IsName(s) {
			t.Errorf("IsName(%q) is false", s)
		}
	}
	for _, s := range []string{"", "_", "_a", "1", "1a", " a", "a ", "a b", "a-b", "a.b", "a\n", "a\x00", "a\xff", "\xff", "é", "aé", "\uff41", "a\u0660", "\u212a", strings.Repeat("n", api.MaxName+1), strings.Repeat("n", 1<<20)} {
		if IsName(s) {
			t.Errorf("IsName(%.40q) is true", s)
		}
	}
	for _, s := range strings.Fields(keywords) {
		if IsName(s) {
			t.Errorf("IsName(%q) is true", s)
		}
	}
}

func TestNameBytes(t *testing.T) {
	for c := range 256 {
		s := string([]byte{byte(c)})
		letter := c >= 'a' && c <= 'z' || c >= 'A' && c <= 'Z'
		part := letter || c >= '0' && c <= '9' || c == '_'
		if IsName(s) != letter {
			t.Errorf("IsName(%q) is %v", s, !letter)
		}
		if IsName("q"+s) != part || IsName("q"+s+"q") != part {
			t.Errorf("IsName with %q inside is %v", s, !part)
		}
	}
}

// P1.3

func TestExamples(t *testing.T) {
	wantTokens(t, "x=10;// end", nameAt("x", 1), signAt("=", 1), numberAt("10", 1), signAt(";", 1))
	wantTokens(t, "a\n<=b", nameAt("a", 1), signAt("<=", 2), nameAt("b", 2))
	wantError(t, "1a", api.ErrSyntax, 1)
	wantError(t, "a & b", api.ErrSyntax, 1)
}

func TestBlanksAndComments(t *testing.T) {
	for _, s := range []string{"", " ", "\t", "\r", "\n", " \t\r\n\n", "//", "///", "// x", "// x\n", "//\n//", "// \x80\xff é & 1a abcdefghijklmnop\r_\x00"} {
		wantTokens(t, s)
	}
	a, b := nameAt("a", 1), nameAt("b", 1)
	for _, gap := range []string{" ", "\t", "\r", " \t\r"} {
		wantTokens(t, "a"+gap+"b", a, b)
	}
	wantTokens(t, "a//b", a)
	wantTokens(t, "a//b\r c", a)
	wantTokens(t, "a// b // c\nb", a, nameAt("b", 2))
	wantTokens(t, "a//\n//\n\nb//", a, nameAt("b", 4))
	wantTokens(t, "a///b", a)
	wantTokens(t, "a/ /b", a, signAt("/", 1), signAt("/", 1), b)
	wantTokens(t, "a/\n/b", a, signAt("/", 1), signAt("/", 2), nameAt("b", 2))
}

func TestWords(t *testing.T) {
	for _, s := range strings.Fields(keywords) {
		wantTokens(t, s, keywordAt(s, 1))
		wantTokens(t, s+"1", nameAt(s+"1", 1))
		wantTokens(t, "X"+s, nameAt("X"+s, 1))
	}
	for _, s := range []string{"a", "Z", "a_", "a1b2", "If", strings.Repeat("w", api.MaxName)} {
		wantTokens(t, s, nameAt(s, 1))
	}
	wantTokens(t, "if(x)", keywordAt("if", 1), signAt("(", 1), nameAt("x", 1), signAt(")", 1))
}

func TestNumbers(t *testing.T) {
	for _, s := range []string{"0", "7", "00", "007", "10", "0000000000000000000000000000000000000009223372036854775807", "9223372036854775807", strings.Repeat("0", api.MaxSource)} {
		wantTokens(t, s, numberAt(s, 1))
	}
	wantTokens(t, "-1", signAt("-", 1), numberAt("1", 1))
	wantTokens(t, "1 2\n3;", numberAt("1", 1), numberAt("2", 1), numberAt("3", 2), signAt(";", 2))
	wantTokens(t, "1 a", numberAt("1", 1), nameAt("a", 1))
	wantTokens(t, "1//a", numberAt("1", 1))
	wantTokens(t, "9223372036854775807//8", numberAt("9223372036854775807", 1))
}

func TestSigns(t *testing.T) {
	for _, s := range strings.Fields(signs) {
		wantTokens(t, s, signAt(s, 1))
		wantTokens(t, "a"+s+"1", nameAt("a", 1), signAt(s, 1), numberAt("1", 1))
	}
	for s, want := range map[string]string{"===": "== =", "====": "== ==", "!==": "!= =", "!!=": "! !=", "<==": "<= =", "=<": "= <", "=>": "= >", "=>=": "= >=", "<>": "< >", "><=": "> <=", "<<=": "< <=", "||||": "|| ||", "&&||": "&& ||", "([{": "( [ {", "}]);,": "} ] ) ; ,", "*/": "* /", "+-": "+ -", "--": "- -"} {
		var l []api.Token
		for _, x := range strings.Fields(want) {
			l = append(l, signAt(x, 1))
		}
		wantTokens(t, s, l...)
	}
}

func TestLines(t *testing.T) {
	wantTokens(t, "\n\na\r\n b\rc\n//x\n\t1\n\n", nameAt("a", 3), nameAt("b", 4), nameAt("c", 4), numberAt("1", 6))
	wantTokens(t, strings.Repeat("\n", api.MaxSource-1)+"a", nameAt("a", api.MaxSource))
}

// P1.4

func TestSourceTooLarge(t *testing.T) {
	for _, s := range []string{" ", "\n", "a ", "#", "1a", "// ", strings.Repeat("a", api.MaxName+1)} {
		long := strings.Repeat(s, api.MaxSource+1)
		wantError(t, long[:api.MaxSource+1], api.ErrTooLarge, 0)
		wantError(t, long, api.ErrTooLarge, 0)
	}
	wantTokens(t, strings.Repeat("\n", api.MaxSource))
	wantTokens(t, "//"+strings.Repeat("#", api.MaxSource-2))
	l, e, line := Scan(strings.Repeat("+", api.MaxSource))
	if len(l) != api.MaxSource || e != api.OK || line != 0 {
		t.Errorf("a source of MaxSource signs: %d tokens, error %d, line %d", len(l), e, line)
	}
}

func TestWordTooLarge(t *testing.T) {
	long := strings.Repeat("w", api.MaxName+1)
	wantError(t, long, api.ErrTooLarge, 1)
	wantError(t, "a\n"+long, api.ErrTooLarge, 2)
	wantError(t, "w"+strings.Repeat("_", api.MaxName), api.ErrTooLarge, 1)
	wantError(t, "w"+strings.Repeat("0", api.MaxName), api.ErrTooLarge, 1)
	wantError(t, "transactionxx", api.ErrTooLarge, 1)
	wantError(t, long+"é", api.ErrTooLarge, 1)
	wantError(t, strings.Repeat("w", api.MaxName)+"é", api.ErrSyntax, 1)
	wantTokens(t, "//"+long)
}

func TestWrongNumbers(t *testing.T) {
	for _, s := range []string{"1a", "1Z", "1_", "0x10", "1if", "1_000", "007a", "9223372036854775808", "9223372036854775810", "10000000000000000000", "18446744073709551616", "00009223372036854775808", strings.Repeat("9", api.MaxSource), "9223372036854775807a", "9223372036854775808a", "99999999999999999999x"} {
		wantError(t, s, api.ErrSyntax, 1)
		if len(s) < api.MaxSource {
			wantError(t, "\n"+s, api.ErrSyntax, 2)
		}
	}
}

func TestWrongBytes(t *testing.T) {
	begins := " \t\r\n" + strings.ReplaceAll(signs, " ", "")
	for c := range 256 {
		s := string([]byte{byte(c)})
		single := s == "&" || s == "|"
		good := !single && (strings.Contains(begins, s) && c < 128 || IsName(s) || c >= '0' && c <= '9')
		if good {
			if _, e, line := Scan(s); e != api.OK || line != 0 {
				t.Errorf("Scan(%q): error %d, line %d", s, e, line)
			}
			continue
		}
		wantError(t, s, api.ErrSyntax, 1)
		wantError(t, "a\n"+s+" ", api.ErrSyntax, 2)
		wantError(t, "//\na;"+s+"\n", api.ErrSyntax, 2)
	}
	for _, s := range []string{"&", "|", "&|", "|&", "&&&", "|||", "& &", "_x", "é", "a\x80", "1\x80", "\v", "\f", "\u00a0", "\ufeffa"} {
		wantError(t, s, api.ErrSyntax, 1)
	}
}

func TestFirstErrorDecides(t *testing.T) {
	long := strings.Repeat("w", api.MaxName+1)
	wantError(t, long+" #", api.ErrTooLarge, 1)
	wantError(t, "#\n"+long, api.ErrSyntax, 1)
	wantError(t, "1a\n"+long, api.ErrSyntax, 1)
	wantError(t, "x\n"+long+"\n1a", api.ErrTooLarge, 2)
	wantError(t, "a b c\n1 +\n& x", api.ErrSyntax, 3)
}

// P1.3 and P1.4 on all short texts over the bytes that matter, against a second definition of the tokens.

var (
	gapPattern    = regexp.MustCompile(`^(?:[ \t\r\n]|//[^\n]*)+`)
	wordPattern   = regexp.MustCompile(`^[A-Za-z][A-Za-z0-9_]*`)
	numberPattern = regexp.MustCompile(`^[0-9]+`)
	signPattern   = regexp.MustCompile(`^(?:\|\||&&|==|!=|<=|>=|[<>+\-*/%!=()\[\]{},;])`)
	joinedPattern = regexp.MustCompile(`^[0-9]+[A-Za-z_]`)
)

func specScan(s string) ([]api.Token, api.Errno, int) {
	var l []api.Token
	limit := new(big.Int).Lsh(big.NewInt(1), 63)
	for i := 0; i < len(s); {
		rest, line := s[i:], 1+strings.Count(s[:i], "\n")
		text, kind := "", 0
		if x := gapPattern.FindString(rest); x != "" {
			i += len(x)
			continue
		} else if x := wordPattern.FindString(rest); x != "" {
			text, kind = x, api.TName
			if len(x) > api.MaxName {
				return nil, api.ErrTooLarge, line
			}
			if slices.Contains(strings.Fields(keywords), x) {
				kind = api.TKeyword
			}
		} else if x := numberPattern.FindString(rest); x != "" {
			text, kind = x, api.TNumber
			n, _ := new(big.Int).SetString(x, 10)
			if n.Cmp(limit) >= 0 || joinedPattern.MatchString(rest) {
				return nil, api.ErrSyntax, line
			}
		} else if x := signPattern.FindString(rest); x != "" {
			text, kind = x, api.TSign
		} else {
			return nil, api.ErrSyntax, line
		}
		l = append(l, api.Token{Kind: kind, Text: text, Line: line})
		i += len(text)
	}
	return l, api.OK, 0
}

func TestShortTexts(t *testing.T) {
	parts := []string{"a", "if", "wwwwwww", "7", "999999999999", "_", " ", "\n", "/", "//", "|", "&", "=", "<", ">", "!", "-", ";", "(", "]", "\xc3", "\xa9", "\x00", "#"}
	var visit func(s string, depth int)
	visit = func(s string, depth int) {
		got, e, line := Scan(s)
		want, wantE, wantLine := specScan(s)
		if e != wantE || line != wantLine || !slices.Equal(got, want) {
			t.Errorf("Scan(%q) = %v, %d, %d; want %v, %d, %d", s, got, e, line, want, wantE, wantLine)
		}
		for _, p := range parts {
			if depth > 0 {
				visit(s+p, depth-1)
			}
		}
	}
	visit("", 3)
}

// P1 to P8

func TestResultsAreNew(t *testing.T) {
	s := string([]byte("if ab = 12; // c"))
	first, _, _ := Scan(s)
	begin := uintptr(unsafe.Pointer(unsafe.StringData(s)))
	for _, x := range first {
		if p := uintptr(unsafe.Pointer(unsafe.StringData(x.Text))); p >= begin && p < begin+uintptr(len(s)) {
			t.Errorf("the text %q lies in the argument", x.Text)
		}
	}
	second, _, _ := Scan(s)
	for i := range first {
		first[i] = api.Token{}
	}
	third, _, _ := Scan(s)
	if len(second) != 5 || !slices.Equal(second, third) {
		t.Errorf("results of Scan share memory: %v, %v", second, third)
	}
}

func TestCallsAreIndependent(t *testing.T) {
	texts := []string{"x = 1;", "# bad", "thread t() { }", strings.Repeat(" ", api.MaxSource+1), ""}
	var wait sync.WaitGroup
	for range 8 {
		wait.Go(func() {
			for range 50 {
				for _, s := range texts {
					got, e, line := Scan(s)
					if len(s) > api.MaxSource {
						if len(got) != 0 || e != api.ErrTooLarge || line != 0 {
							t.Errorf("Scan of a long text: %v, %d, %d", got, e, line)
						}
						continue
					}
					want, wantE, wantLine := specScan(s)
					if e != wantE || line != wantLine || !slices.Equal(got, want) {
						t.Errorf("Scan(%q) = %v, %d, %d", s, got, e, line)
					}
				}
			}
		})
	}
	wait.Wait()
}

func FuzzScan(f *testing.F) {
	for _, s := range []string{"", "var x; thread t() { x = 1; }", "1a", "// \x80\n#", "9223372036854775808"} {
		f.Add(s)
	}
	f.Fuzz(func(t *testing.T, s string) {
		if len(s) > api.MaxSource {
			wantError(t, s, api.ErrTooLarge, 0)
			return
		}
		got, e, line := Scan(s)
		want, wantE, wantLine := specScan(s)
		if e != wantE || line != wantLine || !slices.Equal(got, want) {
			t.Errorf("Scan(%q) = %v, %d, %d; want %v, %d, %d", s, got, e, line, want, wantE, wantLine)
		}
		wholeWord := wordPattern.FindString(s) == s && s != "" && len(s) <= api.MaxName
		if IsName(s) != (wholeWord && !IsKeyword(s)) {
			t.Errorf("IsName(%q) is %v", s, IsName(s))
		}
	})
}
