package check

import (
	"slices"

	"interleave/api"
)

func statementCount(p api.Program) (api.Errno, int) {
	count := 0
	for _, t := range p.Threads {
		count = countStatements(t.Body, count)
	}
	return errorIf(count > api.MaxStmts, api.ErrTooLarge), 0
}

// countStatements adds the statements of a list, and those inside them, to a count.
//
// Beyond the limit it goes on with none of them: statements can be of any depth, and can be used at so many places that nobody can count them.
func countStatements(list []api.Stmt, count int) int {
	for i := 0; i < len(list) && count <= api.MaxStmts; i++ {
		count++
		count = countStatements(list[i].Body, count)
		count = countStatements(list[i].Else, count)
	}
	return count
}

// walk is a walk over the statements of a program, each ahead of those inside it.
type walk struct {
	scope
	own    string          // the name of the thread whose statements are visited
	around []*api.Stmt     // the statements that the visited one is inside, the outermost first
	done   map[string]bool // the threads that earlier statements spawn, and the futures that they set
}

// statements returns the first error of the statements and its line.
func statements(p api.Program) (api.Errno, int) {
	w := walk{done: map[string]bool{}}
	for i, t := range p.Threads {
		w.scope, w.own = scopeOf(p, i), t.Name
		if err, line := w.list(t.Body); err != api.OK {
			return err, line
		}
	}
	return api.OK, 0
}

func (w *walk) list(l []api.Stmt) (api.Errno, int) {
	for i := range l {
		if err, line := w.visit(&l[i]); err != api.OK {
			return err, line
		}
	}
	return api.OK, 0
}

// visit returns the first error of a statement and of those inside it, and its line.
func (w *walk) visit(s *api.Stmt) (api.Errno, int) {
	if err := w.statement(s); err != api.OK {
		return err, s.Line
	}
	w.around = append(w.around, s)
	err, line := w.list(s.Body)
	if err == api.OK {
		err, line = w.list(s.Else)
	}
	w.around = w.around[:len(w.around)-1]
	return err, line
}

// inside reports whether the visited statement is inside one of some kinds.
func (w *walk) inside(kinds ...int) bool {
	return slices.ContainsFunc(w.around, func(s *api.Stmt) bool { return slices.Contains(kinds, s.Op) })
}

// insideOf reports whether the visited statement is inside one of some kinds with a name.
func (w *walk) insideOf(name string, kinds ...int) bool {
	return slices.ContainsFunc(w.around, func(s *api.Stmt) bool { return s.Name == name && slices.Contains(kinds, s.Op) })
}

// repeated reports whether an earlier statement spawned the thread, or set the future, with a name. From now on one has.
func (w *walk) repeated(name string) bool {
	earlier := w.done[name]
	w.done[name] = true
	return earlier
}
