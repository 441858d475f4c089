package format

import "interleave/api"

var statementWords = [...]string{
	api.SIf:          "if",
	api.SWhile:       "while",
	api.SLock:        "lock",
	api.SRead:        "read",
	api.SWrite:       "write",
	api.STransaction: "transaction",
	api.SAtomic:      "atomic",
	api.SWait:        "wait",
	api.SNotify:      "notify",
	api.SNotifyAll:   "notifyall",
	api.SSpawn:       "spawn",
	api.SJoin:        "join",
	api.SSet:         "set",
	api.SGet:         "get",
}

// statementWord returns the keyword of the statements of a kind, or nothing if they have none.
func statementWord(op int) string {
	if op < 0 || op >= len(statementWords) {
		return ""
	}
	return statementWords[op]
}

func (l *layout) statement(s *api.Stmt) {
	l.blanks()
	switch s.Op {
	case api.SAssign:
		l.assignment(s)
	case api.SIf, api.SWhile, api.SLock, api.SRead, api.SWrite, api.STransaction, api.SAtomic:
		l.head(s)
		l.blocks(s)
	default:
		l.head(s)
		l.text(";\n")
	}
}

func (l *layout) assignment(s *api.Stmt) {
	l.text(s.Name)
	if len(s.Index) > 0 {
		l.index(s.Index)
	}
	l.text(" = ")
	l.inner(&s.Expr, lowest)
	l.text(";\n")
}

// head adds the keyword and what stands behind it. It needs no kind to choose: the fields that a kind does not have are zero.
func (l *layout) head(s *api.Stmt) {
	l.text(statementWord(s.Op))
	if s.Name != "" {
		l.text(" ", s.Name)
	}
	if s.Arg != "" {
		l.text(" ", s.Arg)
	}
	if s.Expr.Op != 0 {
		l.text(" ")
		l.inner(&s.Expr, lowest)
	}
}

func (l *layout) blocks(s *api.Stmt) {
	l.text(" {\n")
	l.block(s.Body)
	if len(s.Else) > 0 {
		l.blanks()
		l.text("} else {\n")
		l.block(s.Else)
	}
	l.blanks()
	l.text("}\n")
}
