package check

import (
	"strings"
	"testing"

	"interleave/api"
)

// P4.3

func TestExamples(t *testing.T) {
	want(t, "mutex m; thread t() { lock m { @lock m { } } }", api.ErrNesting)
	want(t, "var x; thread t() { @x = y; }", api.ErrUndefined)
	want(t, "mutex m; thread t() { @m = 1; }", api.ErrKind)
	want(t, "thread u() { spawn t; @spawn t; } thread t() { }", api.ErrOnce)
}

// Every place for a name, with the names of allNames that it accepts. The mark stands ahead of the statement.
var places = []struct{ text, accepted string }{
	{"@NAME = 1;", "l x v"},
	{"@NAME[0] = 1;", "a"},
	{"@x = NAME;", "l x v"},
	{"@x = 1 - NAME[l];", "a"},
	{"@l = NAME;", "l x v"},
	{"@a[0] = NAME;", "l x v"},
	{"@a[NAME] = 1;", "l x v"},
	{"@a[NAME[1]] = 1;", "a"},
	{"@if NAME { }", "l x v"},
	{"@if !NAME[1] { } else { }", "a"},
	{"@while NAME { }", "l x v"},
	{"@while NAME[0] < 1 { }", "a"},
	{"@lock NAME { }", "m"},
	{"@read NAME { }", "r"},
	{"@write NAME { }", "r"},
	{"lock m { @wait NAME; }", "c"},
	{"lock m { @notify NAME; }", "c"},
	{"lock m { @notifyall NAME; }", "c"},
	{"@spawn NAME;", "u"},
	{"@join NAME;", "u"},
	{"@set NAME 1;", "f"},
	{"@set f NAME;", "l x v"},
	{"@set f NAME[2];", "a"},
	{"@get NAME f;", "l"},
	{"@get l NAME;", "f"},
}

func TestKindsOfNamesInStatements(t *testing.T) {
	for _, place := range places {
		for _, s := range allNames {
			body := strings.Replace(place.text, "NAME", s, 1)
			err := errorOf(s, place.accepted)
			if err == api.OK {
				body = strings.Replace(body, "@", "", 1)
			}
			for _, around := range []string{"BODY", "if x { x = 1; BODY } else { }", "if x { } else { BODY x = 1; }", "lock n { BODY }"} {
				wantBody(t, strings.Replace(around, "BODY", body, 1), err)
			}
		}
		// The locals of another thread are undefined.
		wantBody(t, strings.Replace(place.text, "NAME", "k", 1), api.ErrUndefined)
	}
}

// Every statement, with the blocks inside which it may not stand.
var nestings = []struct{ text, forbidden string }{
	{"x = 1;", ""},
	{"a[l] = 1;", ""},
	{"if x { }", ""},
	{"while x { }", ""},
	{"lock m { }", "transaction, lock m"},
	{"lock n { }", "transaction, lock n"},
	{"read r { }", "transaction, read r, write r"},
	{"read q { }", "transaction"},
	{"write r { }", "transaction, read r, write r"},
	{"write q { }", "transaction"},
	{"transaction { }", "transaction"},
	{"atomic { }", "transaction, atomic"},
	{"spawn u;", "transaction, atomic, while"},
	{"join u;", "transaction, atomic"},
	{"set f 1;", "transaction, while"},
	{"get l f;", "transaction"},
}

// The statements of a condition, which stand inside a lock of its mutex.
var guarded = []struct{ text, forbidden string }{
	{"wait c;", "transaction, atomic"},
	{"notify c;", "transaction"},
	{"notifyall c;", "transaction"},
}

var heads = []string{"if x", "while x", "lock m", "lock n", "read r", "write r", "transaction", "atomic"}

func forbids(list, head string) bool {
	for _, s := range strings.Split(list, ", ") {
		if s != "" && strings.HasPrefix(head, s) {
			return true
		}
	}
	return false
}

// wantInside checks a statement directly inside a block, and with other blocks between them.
func wantInside(t *testing.T, before, head, text, after string, forbidden bool) {
	t.Helper()
	mark, err := "", api.OK
	if forbidden {
		mark, err = "@", api.ErrNesting
	}
	for _, between := range []string{"BODY", "x = 1; BODY x = 2;", "if x { BODY }", "if x { } else { BODY }", "write q { if x { BODY } }"} {
		if head == "transaction" && strings.HasPrefix(between, "write") || strings.Contains(text, " q ") && strings.Contains(between, " q ") {
			continue
		}
		wantBody(t, before+head+" { "+strings.Replace(between, "BODY", mark+text, 1)+" } "+after, err)
	}
}

func TestNesting(t *testing.T) {
	for _, s := range nestings {
		wantBody(t, s.text, api.OK)
		for _, head := range heads {
			wantInside(t, "", head, s.text, "", forbids(s.forbidden, head))
			wantInside(t, "atomic { } ", head, s.text, " transaction { }", forbids(s.forbidden, head))
			// A statement behind a block is not inside it.
			wantBody(t, head+" { } "+s.text+" "+head+" { }", api.OK)
			wantBody(t, "if x { "+head+" { x = 1; } } else { "+s.text+" }", api.OK)
		}
		wantInside(t, "", "if x { } else", s.text, "", false)
	}
}

func TestNestingOfConditions(t *testing.T) {
	for _, s := range guarded {
		wantBody(t, "lock m { "+s.text+" }", api.OK)
		wantBody(t, "lock m { if x { } else { while x { "+s.text+" } } "+s.text+" }", api.OK)
		wantBody(t, "@"+s.text, api.ErrNesting)
		wantBody(t, "lock m { } @"+s.text+" lock m { }", api.ErrNesting)
		for _, head := range heads {
			if head != "lock m" {
				wantInside(t, "", head, s.text, "", true)
				wantInside(t, "lock m { ", head, s.text, "}", forbids(s.forbidden, head))
			}
			if head != "lock m" && head != "transaction" {
				wantInside(t, head+" { ", "lock m", s.text, "}", forbids(s.forbidden, head))
			}
		}
		// The mutex of another condition is another one.
		two := "var x; mutex m; mutex n; cond c m; cond d n; thread t() { BODY }"
		body := func(s string) string { return strings.Replace(two, "BODY", s, 1) }
		want(t, body("lock n { @"+s.text+" }"), api.ErrNesting)
		want(t, body("lock m { "+s.text+" } lock n { "+strings.Replace(s.text, "c;", "d;", 1)+" }"), api.OK)
		want(t, body("lock n { lock m { "+s.text+" "+strings.Replace(s.text, "c;", "d;", 1)+" } }"), api.OK)
		want(t, body("lock m { @"+strings.Replace(s.text, "c;", "d;", 1)+" }"), api.ErrNesting)
	}
}

func TestNestingOfLocks(t *testing.T) {
	wantBody(t, "lock m { lock n { @lock m { } } }", api.ErrNesting)
	wantBody(t, "lock m { lock n { @lock n { } } }", api.ErrNesting)
	wantBody(t, "lock m { lock n { read r { write q { } } } } lock n { lock m { write q { read r { } } } }", api.OK)
	wantBody(t, "read r { write q { @read r { } } }", api.ErrNesting)
	wantBody(t, "write q { lock m { read r { @read q { } } } }", api.ErrNesting)
	wantBody(t, "atomic { lock m { transaction { } } }", api.OK)
	wantBody(t, "atomic { transaction { if x { @atomic { } } } }", api.ErrNesting)
	wantBody(t, "atomic { lock m { transaction { @lock n { } } } }", api.ErrNesting)
}

func TestThreadsInStatements(t *testing.T) {
	three := "var x; thread t() { A } thread u() { B } thread w() { C }"
	put := func(a, b, c string) string { return strings.NewReplacer("A", a, "B", b, "C", c).Replace(three) }
	want(t, put("spawn u; spawn w; join u; join w; join u;", "join t; join w;", "join t; join u;"), api.OK)
	want(t, put("spawn w;", "", "spawn u;"), api.OK)
	want(t, put("@spawn t;", "", ""), api.ErrNesting)
	want(t, put("", "@spawn t;", ""), api.ErrNesting)
	want(t, put("", "", "if x { @spawn t; }"), api.ErrNesting)
	want(t, put("", "@spawn u;", ""), api.ErrNesting)
	want(t, put("spawn u;", "@spawn u;", ""), api.ErrNesting)
	want(t, put("@join t;", "", ""), api.ErrNesting)
	want(t, put("", "if x { @join u; }", ""), api.ErrNesting)
	want(t, put("", "", "@join w;"), api.ErrNesting)
	want(t, put("join u; join w; spawn u;", "spawn w;", ""), api.OK)
	// The blocks of one thread are not around the statements of another one.
	want(t, "mutex m; cond c m; future f; thread t() { while 1 { } lock m { } transaction { } } thread u() { spawn w; set f 1; lock m { wait c; } } thread w() { }", api.OK)
	want(t, "mutex m; cond c m; thread t() { lock m { wait c; } } thread u() { @wait c; }", api.ErrNesting)
}

func TestOnce(t *testing.T) {
	for _, s := range []string{"spawn u;", "set f 1;"} {
		other := map[string]string{"spawn u;": "spawn w;", "set f 1;": "set g 2;"}[s]
		wantBody(t, s+" "+other, api.OK)
		wantBody(t, s+" @"+s, api.ErrOnce)
		wantBody(t, other+" "+s+" @"+s+" "+other, api.ErrOnce)
		wantBody(t, s+" "+other+" x = 1; @"+other+" "+s, api.ErrOnce)
		wantBody(t, "if x { "+s+" } else { @"+s+" }", api.ErrOnce)
		wantBody(t, "if x { "+s+" } else { "+other+" } @"+other, api.ErrOnce)
		wantBody(t, "if x { lock m { if x { "+s+" } } } lock m { @"+s+" }", api.ErrOnce)
		wantBody(t, "if x { } else { "+s+" } if x { @"+s+" }", api.ErrOnce)
		// in several threads
		both := "var x; future f; future g; thread t() { A } thread y() { B } thread u() { } thread w() { }"
		put := func(a, b string) string { return strings.NewReplacer("A", a, "B", b).Replace(both) }
		want(t, put(s, other), api.OK)
		want(t, put(s, "if x { } @"+s), api.ErrOnce)
		want(t, put("if x { "+other+" }", s+" @"+other), api.ErrOnce)
	}
	wantBody(t, "spawn u; join u; get l f; set f 1; get l f; join u; get l f;", api.OK)
}

func TestOrderOfErrorsInAStatement(t *testing.T) {
	large := "------1"
	rows := []struct {
		body string
		err  api.Errno
	}{
		{"@z = m;", api.ErrUndefined}, {"@m = z;", api.ErrKind}, {"@z = " + large + ";", api.ErrUndefined}, {"@a = z;", api.ErrKind}, {"@x = " + large + ";", api.ErrTooLarge},
		{"@z[m] = 1;", api.ErrUndefined}, {"@m[z] = 1;", api.ErrKind}, {"@x[z] = z;", api.ErrKind}, {"@l[z] = z;", api.ErrKind}, {"@m[" + large + "] = z;", api.ErrKind},
		{"@a[z] = m;", api.ErrUndefined}, {"@a[m] = z;", api.ErrKind}, {"@a[" + large + "] = z;", api.ErrTooLarge}, {"@a[z] = " + large + ";", api.ErrUndefined}, {"@a[1] = " + large + ";", api.ErrTooLarge},
		{"@if " + large + " { }", api.ErrTooLarge}, {"@while " + large + " { }", api.ErrTooLarge},
		{"transaction { @lock z { } }", api.ErrUndefined}, {"transaction { @lock r { } }", api.ErrKind},
		{"transaction { @read z { } }", api.ErrUndefined}, {"transaction { @write m { } }", api.ErrKind},
		{"@wait z;", api.ErrUndefined}, {"@notify m;", api.ErrKind}, {"transaction { @notifyall z; }", api.ErrUndefined}, {"atomic { @wait x; }", api.ErrKind},
		{"while x { @spawn z; }", api.ErrUndefined}, {"atomic { @spawn x; }", api.ErrKind}, {"spawn u; while x { @spawn u; }", api.ErrNesting}, {"spawn u; atomic { @spawn u; }", api.ErrNesting},
		{"transaction { @join z; }", api.ErrUndefined}, {"atomic { @join m; }", api.ErrKind},
		{"while x { @set z m; }", api.ErrUndefined}, {"transaction { @set m z; }", api.ErrKind}, {"while x { @set f z; }", api.ErrNesting},
		{"set f 1; while x { @set f 2; }", api.ErrNesting}, {"set f 1; @set f z;", api.ErrOnce}, {"set f 1; @set f " + large + ";", api.ErrOnce}, {"set f 1; @set g " + large + ";", api.ErrTooLarge},
		{"@get z x;", api.ErrUndefined}, {"@get x z;", api.ErrKind}, {"@get f l;", api.ErrKind}, {"transaction { @get z f; }", api.ErrUndefined}, {"transaction { @get m f; }", api.ErrKind},
		{"transaction { @get l z; }", api.ErrUndefined}, {"transaction { @get l x; }", api.ErrKind},
	}
	for _, r := range rows {
		wantBody(t, r.body, r.err)
	}
}
