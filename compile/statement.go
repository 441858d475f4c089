package compile

import (
	"slices"

	"interleave/api"
)

func (b *builder) block(body []api.Stmt) {
	around := b.site
	for _, s := range body {
		b.site = b.sites
		b.sites++
		b.statement(s)
	}
	b.site = around
}

func (b *builder) statement(s api.Stmt) {
	switch s.Op {
	case api.SAssign:
		b.assignment(s)
	case api.SIf:
		b.condition(s)
	case api.SWhile:
		b.loop(s)
	case api.SLock:
		b.enclose(api.IAcquire, lockOf(b.world, s.Name), s.Body, api.IRelease)
	case api.SRead:
		b.enclose(api.IReadAcquire, lockOf(b.world, s.Name), s.Body, api.IReadRelease)
	case api.SWrite:
		b.enclose(api.IWriteAcq, lockOf(b.world, s.Name), s.Body, api.IWriteRel)
	case api.STransaction:
		b.enclose(api.ITxBegin, 0, s.Body, api.ITxEnd)
	case api.SAtomic:
		b.enclose(api.IAtomicBegin, 0, s.Body, api.IAtomicEnd)
	default:
		b.action(s)
	}
}

// action appends the instructions of a statement without a body that is no assignment.
func (b *builder) action(s api.Stmt) {
	switch s.Op {
	case api.SWait:
		b.add(api.Instr{Op: api.IWait, A: b.cond(s.Name)})
	case api.SNotify:
		b.add(api.Instr{Op: api.INotify, A: b.cond(s.Name)})
	case api.SNotifyAll:
		b.add(api.Instr{Op: api.INotifyAll, A: b.cond(s.Name)})
	case api.SSpawn:
		b.add(api.Instr{Op: api.ISpawn, A: slices.Index(b.world.Threads, s.Name)})
	case api.SJoin:
		b.add(api.Instr{Op: api.IJoin, A: slices.Index(b.world.Threads, s.Name)})
	case api.SSet:
		b.value(s.Expr, b.free())
		b.add(api.Instr{Op: api.ISet, A: b.future(s.Name), B: b.free()})
	case api.SGet:
		b.add(api.Instr{Op: api.IGet, A: b.local(s.Name), B: b.future(s.Arg)})
	}
}

func (b *builder) assignment(s api.Stmt) {
	k := b.free()
	if len(s.Index) == 1 {
		b.value(s.Index[0], k)
		b.value(s.Expr, k+1)
		first := b.cell(s.Name)
		b.add(api.Instr{Op: api.IStoreAt, A: first, B: k + 1, C: k, N: int64(b.world.Cells[first].Size)})
		return
	}
	b.value(s.Expr, k)
	if local := b.local(s.Name); local >= 0 {
		b.add(api.Instr{Op: api.IMove, A: local, B: k})
		return
	}
	b.add(api.Instr{Op: api.IStore, A: b.cell(s.Name), B: k})
}

func (b *builder) condition(s api.Stmt) {
	branch := b.branch(s.Expr)
	b.block(s.Body)
	if len(s.Else) == 0 {
		b.instrs[branch].B = b.next()
		return
	}
	jump := b.add(api.Instr{Op: api.IJump})
	b.instrs[branch].B = b.next()
	b.block(s.Else)
	b.instrs[jump].A = b.next()
}

func (b *builder) loop(s api.Stmt) {
	first := b.next()
	branch := b.branch(s.Expr)
	b.block(s.Body)
	b.add(api.Instr{Op: api.IJump, A: first})
	b.instrs[branch].B = b.next()
}

// branch appends the test of an expression and returns the index of the branch, whose target is not known yet.
func (b *builder) branch(e api.Expr) int {
	b.value(e, b.free())
	return b.add(api.Instr{Op: api.IBranch, A: b.free()})
}

// enclose appends a body between two instructions on one object.
func (b *builder) enclose(begin, object int, body []api.Stmt, end int) {
	b.add(api.Instr{Op: begin, A: object})
	b.block(body)
	b.add(api.Instr{Op: end, A: object})
}
