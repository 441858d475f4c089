package compile

import (
	"interleave/api"
	"interleave/eval"
)

// maxRegisters is the greatest number of registers of a thread.
const maxRegisters = 32

// Valid reports whether a code can be executed.
func Valid(c api.Code) bool {
	if !ValidWorld(c.World) || len(c.Threads) != len(c.World.Threads) {
		return false
	}
	for i, t := range c.Threads {
		if !(&examiner{c.World, i, t}).valid() {
			return false
		}
	}
	return true
}

// An examiner examines the code of the thread with index number.
type examiner struct {
	world  api.World
	number int
	code   api.ThreadCode
}

func (x *examiner) valid() bool {
	if x.code.Regs < 0 || x.code.Regs > maxRegisters || len(x.code.Instrs) == 0 {
		return false
	}
	for n, i := range x.code.Instrs {
		last := n == len(x.code.Instrs)-1
		if !x.instruction(i) || (i.Op == api.IEnd) != last {
			return false
		}
	}
	return reachesEvents(x.code.Instrs)
}

func (x *examiner) instruction(i api.Instr) bool {
	return isInstruction(i.Op) && x.site(i) && x.registers(i) && x.operands(i)
}

func (x *examiner) site(i api.Instr) bool {
	if i.Op == api.IEnd {
		return i.Site == noSite
	}
	return isIndex(i.Site, len(x.world.Sites)) && x.world.Sites[i.Site].Thread == x.number
}

func (x *examiner) registers(i api.Instr) bool {
	for _, r := range registersOf(i) {
		if !isIndex(r, x.code.Regs) {
			return false
		}
	}
	return true
}

// operands examines the fields of an instruction that name no registers.
func (x *examiner) operands(i api.Instr) bool {
	switch i.Op {
	case api.IUnary:
		_, known := eval.Unary(int(i.N), 0)
		return known
	case api.IBinary:
		_, known := eval.Binary(int(i.N), 0, 0)
		return known
	case api.IJump:
		return isIndex(i.A, len(x.code.Instrs))
	case api.IBranch:
		return isIndex(i.B, len(x.code.Instrs))
	case api.ILoad:
		return x.isScalar(i.B)
	case api.IStore:
		return x.isScalar(i.A)
	case api.ILoadAt:
		return x.isArray(i.B, i.N)
	case api.IStoreAt:
		return x.isArray(i.A, i.N)
	}
	return x.object(i)
}

// object examines the object of an instruction that accesses no cell.
func (x *examiner) object(i api.Instr) bool {
	switch i.Op {
	case api.IAcquire, api.IRelease:
		return isLock(x.world, i.A, false)
	case api.IReadAcquire, api.IReadRelease, api.IWriteAcq, api.IWriteRel:
		return isLock(x.world, i.A, true)
	case api.IWait, api.INotify, api.INotifyAll:
		return isIndex(i.A, len(x.world.Conds))
	case api.ISpawn, api.IJoin:
		return isIndex(i.A, len(x.world.Threads))
	case api.ISet:
		return isIndex(i.A, len(x.world.Futures))
	case api.IGet:
		return isIndex(i.B, len(x.world.Futures))
	}
	return true
}

func (x *examiner) isScalar(cell int) bool {
	return isIndex(cell, len(x.world.Cells)) && x.world.Cells[cell].Size == 0
}

// isArray reports whether a cell is the first one of an array of that size.
func (x *examiner) isArray(cell int, size int64) bool {
	if !isIndex(cell, len(x.world.Cells)) {
		return false
	}
	c := x.world.Cells[cell]
	return c.Index == 0 && c.Size != 0 && int64(c.Size) == size
}

// reachesEvents reports whether the silent instructions from each instruction on end ahead of an event. It assumes that the last instruction is an event and that jumps have targets.
func reachesEvents(instrs []api.Instr) bool {
	// Each walk leaves its number. A walk that meets the number of an earlier one need not go on: that one reached an event.
	walks := make([]int, len(instrs))
	for start := range instrs {
		walk, at := start+1, start
		for isSilent(instrs[at].Op) && walks[at] == 0 {
			walks[at] = walk
			at = behind(instrs, at)
		}
		if walks[at] == walk {
			return false
		}
	}
	return true
}

// behind returns the index of the instruction that is executed behind a silent one.
func behind(instrs []api.Instr, at int) int {
	if instrs[at].Op == api.IJump {
		return instrs[at].A
	}
	return at + 1
}
