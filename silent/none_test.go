package silent

import (
	"math"
	"slices"
	"testing"

	"interleave/api"
)

// P7.3

// wantNone checks that Settle returns no state, and that the one handed in stays as it is.
func wantNone(t *testing.T, c api.ThreadCode, s api.ThreadState) {
	t.Helper()
	before := cloneOf(s)
	if got, ok := Settle(c, s); ok || !sameState(got, api.ThreadState{}) {
		t.Errorf("from %s: %v and %s; want no state", shown(c, s), ok, shown(api.ThreadCode{}, got))
	}
	if !sameState(s, before) {
		t.Errorf("the state of %s became that of %s", shown(c, before), shown(c, s))
	}
}

// wantSome checks that Settle returns a state with a PC.
func wantSome(t *testing.T, c api.ThreadCode, s api.ThreadState, pc int) {
	t.Helper()
	if got, ok := Settle(c, s); !ok || got.PC != pc {
		t.Errorf("from %s: %v and %v; want PC %d", shown(c, s), ok, got, pc)
	}
}

func TestNumbersOfRegisters(t *testing.T) {
	for regs := -2; regs < 5; regs++ {
		for values := range 5 {
			for taints := range 5 {
				for _, l := range [][]api.Instr{{end}, {in(api.IJump, 1), end}} {
					s := state(0, make([]int64, values), make([][]int, taints)...)
					if values == regs && taints == regs {
						wantSome(t, code(regs, l...), s, len(l)-1)
					} else {
						wantNone(t, code(regs, l...), s)
					}
				}
			}
		}
	}
	for _, regs := range []int{math.MinInt, -1, 2, 1 << 32, 1<<32 + 1, math.MaxInt} {
		wantNone(t, code(regs, end), state(0, []int64{5}, []int{3}))
	}
	// Neither the capacity nor a part of the registers decides.
	wantNone(t, code(3, end), state(0, make([]int64, 2, 3), make([][]int, 2, 3)...))
	wantNone(t, code(2, constant(0, 1), end), state(0, make([]int64, 3), make([][]int, 3)...))
}

func TestPCAtTheBeginning(t *testing.T) {
	for n := range 4 {
		c := code(1, slices.Repeat([]api.Instr{end}, n)...)
		for _, pc := range []int{math.MinInt, -1 << 32, -2, -1, n, n + 1, 1 << 32, math.MaxInt} {
			wantNone(t, c, state(pc, []int64{5}, []int{3}))
		}
		for pc := range n {
			wantSome(t, c, state(pc, []int64{5}, []int{3}), pc)
		}
	}
	wantNone(t, api.ThreadCode{}, api.ThreadState{})
}

func TestPCBehindAnInstruction(t *testing.T) {
	silent := []api.Instr{constant(0, 1), in(api.IMove), in(api.IUnary, 0, 0, 0, api.ENeg), in(api.IBinary, 0, 0, 0, api.EAdd)}
	for _, last := range silent {
		wantNone(t, code(1, last), state(0, []int64{5}, []int{3}))
		wantNone(t, code(1, end, last), state(1, []int64{5}, []int{3}))
		wantNone(t, code(1, constant(0, 1), end, constant(0, 1), last), state(2, []int64{5}, []int{3}))
		wantSome(t, code(1, last, end), state(0, []int64{5}, []int{3}), 1)
	}
	for _, target := range []int{math.MinInt, -1 << 32, -2, -1, 3, 4, 1 << 32, math.MaxInt} {
		wantNone(t, code(1, in(api.IJump, target), end, end), state(0, []int64{5}, []int{3}))
		wantNone(t, code(1, end, in(api.IJump, 2), in(api.IJump, target)), state(1, []int64{5}, []int{3}))
	}
	for target := 1; target < 3; target++ {
		wantSome(t, code(1, in(api.IJump, target), end, end), state(0, []int64{5}, []int{3}), target)
	}
}

func TestRegistersThatDoNotExist(t *testing.T) {
	const regs = 3
	fields := func(i *api.Instr) []*int { return []*int{&i.A, &i.B, &i.C} }
	for _, row := range []struct {
		op, n, used int // the first fields name registers
	}{{api.IConst, 6, 1}, {api.IMove, 0, 2}, {api.IUnary, api.ENot, 2}, {api.IBinary, api.ESub, 3}} {
		for field := range 3 {
			for _, r := range []int{math.MinInt, -1 << 32, -2, -1, 0, 1, 2, regs, regs + 1, 1 << 32, math.MaxInt} {
				i := in(row.op, 1, 1, 1, row.n)
				*fields(&i)[field] = r
				s := state(0, []int64{7, 8, 9}, []int{1}, []int{2}, []int{3})
				if field < row.used && (r < 0 || r >= regs) {
					wantNone(t, code(regs, i, end), s)
					wantNone(t, code(regs, constant(0, 1), i, end), s)
				} else {
					wantSome(t, code(regs, i, end), s, 1)
				}
			}
		}
		wantNone(t, code(0, in(row.op, 0, 0, 0, row.n), end), state(0, nil))
	}
}

func TestOperatorsThatDoNotExist(t *testing.T) {
	for op := -3; op < 24; op++ {
		s := state(0, []int64{7, 8}, []int{1}, []int{2})
		unary, binary := in(api.IUnary, 0, 1, 0, op), in(api.IBinary, 0, 1, 1, op)
		if op == api.ENeg || op == api.ENot {
			wantSome(t, code(2, unary, end), s, 1)
		} else {
			wantNone(t, code(2, unary, end), s)
		}
		if op >= api.EAdd && op <= api.EOr {
			wantSome(t, code(2, binary, end), s, 1)
		} else {
			wantNone(t, code(2, binary, end), s)
		}
	}
	for _, op := range []int{math.MinInt, 256 + api.ENeg, 256 + api.EAdd, 1<<32 + api.ENot, 1<<32 + api.EOr, math.MaxInt} {
		wantNone(t, code(1, in(api.IUnary, 0, 0, 0, op), end), state(0, []int64{5}, []int{3}))
		wantNone(t, code(1, in(api.IBinary, 0, 0, 0, op), end), state(0, []int64{5}, []int{3}))
	}
}

// All instructions but one are silent and are executed ahead of that one; or all are, and the next one is silent again.
func TestAsManySilentInstructionsAsThereAre(t *testing.T) {
	add := in(api.IBinary, 0, 0, 1, api.EAdd)
	for n := 1; n < 12; n++ {
		s := state(0, []int64{0, 1}, nil, []int{6})
		straight := append(slices.Repeat([]api.Instr{add}, n), end)
		wantState(t, code(2, straight...), s, state(n, []int64{int64(n), 1}, []int{6}, []int{6}))
		// The event stands in front, and a jump at the end leads to it.
		round := slices.Concat([]api.Instr{end}, straight[:n], []api.Instr{in(api.IJump, 0)})
		s.PC = 1
		wantState(t, code(2, round...), s, state(0, []int64{int64(n), 1}, []int{6}, []int{6}))
		for back := range n + 1 {
			straight[n] = in(api.IJump, back)
			for s.PC = range n + 1 {
				wantNone(t, code(2, straight...), s)
				wantNone(t, code(2, append(slices.Clone(straight), end)...), s)
			}
		}
	}
}

func TestCycles(t *testing.T) {
	s := state(0, []int64{7}, []int{3})
	wantNone(t, code(1, in(api.IJump, 0)), s)
	wantNone(t, code(1, in(api.IJump, 0), end), s)
	wantNone(t, code(1, in(api.IJump, 1), in(api.IJump, 0), end), s)
	wantNone(t, code(1, in(api.IJump, 2), end, in(api.IJump, 0)), s)
	wantNone(t, code(1, constant(0, 1), in(api.IJump, 0), end), s)
	// The way into a cycle does not belong to it.
	wantNone(t, code(1, constant(0, 1), constant(0, 2), in(api.IJump, 1), end), s)
	// A cycle with an event is none.
	wantSome(t, code(1, constant(0, 1), in(api.IBranch), in(api.IJump, 0), end), s, 1)
	s.PC = 2
	wantSome(t, code(1, constant(0, 1), in(api.IBranch), in(api.IJump, 0), end), s, 1)
}

// All codes of at most four instructions that are jumps to anywhere, constants or ends.
func TestAllShortWays(t *testing.T) {
	instrs := []api.Instr{constant(0, 1), end}
	for to := -1; to <= 4; to++ {
		instrs = append(instrs, in(api.IJump, to))
	}
	some, none := 0, 0
	for _, l := range shortLists(4, instrs...) {
		for pc := -1; pc <= len(l); pc++ {
			c, s := code(1, l...), state(pc, []int64{7}, []int{3})
			if want, ok := specSettle(c, s); ok {
				wantState(t, c, s, want)
				some++
			} else {
				wantNone(t, c, s)
				none++
			}
		}
		if t.Failed() {
			return
		}
	}
	if some < 3000 || none < 10000 {
		t.Errorf("only %d states, and %d without one", some, none)
	}
}
