package check

import (
	"strings"
	"testing"

	"interleave/api"
	"interleave/format"
	"interleave/parse"
)

func program(t *testing.T, source string) api.Program {
	t.Helper()
	p, err, line := parse.Parse(source)
	if err != api.OK {
		t.Fatalf("Parse(%q): error %d, line %d", source, err, line)
	}
	return p
}

func expression(t *testing.T, source string) api.Expr {
	t.Helper()
	e, err, _ := parse.Expr(source)
	if err != api.OK {
		t.Fatalf("parse.Expr(%q): error %d", source, err)
	}
	return e
}

// want checks a program in which @ stands directly ahead of the part whose line is told with the error; a # ahead of all stands for line 0. Each declaration and each statement gets a line of its own.
func want(t *testing.T, marked string, err api.Errno) {
	t.Helper()
	line := 0
	marked = strings.NewReplacer("; ", ";\n", "{ ", "{\n", "} ", "}\n").Replace(marked)
	before, after, found := strings.Cut(marked, "@")
	if found {
		line = 1 + strings.Count(before, "\n")
	}
	source, none := strings.CutPrefix(before+after, "#")
	if (found || none) != (err != api.OK) {
		t.Fatalf("%q: the mark does not fit to error %d", marked, err)
	}
	wantValue(t, program(t, source), err, line)
}

func wantValue(t *testing.T, p api.Program, err api.Errno, line int) {
	t.Helper()
	if gotErr, gotLine := Program(p); gotErr != err || gotLine != line {
		t.Errorf("error %d, line %d; want error %d, line %d:\n%.3000s", gotErr, gotLine, err, line, format.Program(p))
	}
}

// The names of the declarations and of the threads that most tests use: each kind of names has one, and undefined has none.
const (
	decls     = " var x; volatile v; var a[2]; mutex m; mutex n; rwlock r; rwlock q; cond c m; future f; future g; "
	threads   = " thread u(k) { } thread w() { }"
	undefName = "z"
)

// allNames are one name of each kind in the first thread, and one that is undefined.
var allNames = []string{"l", "x", "v", "a", "m", "r", "c", "f", "u", undefName}

// wantBody checks a body of the first thread, whose local is l.
func wantBody(t *testing.T, marked string, err api.Errno) {
	t.Helper()
	want(t, decls+"thread t(l) { "+marked+" }"+threads, err)
}

// errorOf returns what must be told of a name if only some are accepted.
func errorOf(name, accepted string) api.Errno {
	if name == undefName {
		return api.ErrUndefined
	}
	if strings.Contains(" "+accepted+" ", " "+name+" ") {
		return api.OK
	}
	return api.ErrKind
}
