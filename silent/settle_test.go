package silent

import (
	"fmt"
	"math"
	"slices"
	"testing"

	"interleave/api"
	"interleave/eval"
)

// P7.2

// in returns an instruction with fields A, B, C and N, as far as they are given.
func in(op int, fields ...int) api.Instr {
	f := append(slices.Clone(fields), 0, 0, 0, 0)
	return api.Instr{Op: op, A: f[0], B: f[1], C: f[2], N: int64(f[3])}
}

// constant returns the IConst of number n.
func constant(a int, n int64) api.Instr {
	return api.Instr{Op: api.IConst, A: a, N: n}
}

var end = in(api.IEnd)

// code returns the code of a thread with so many registers.
func code(regs int, instrs ...api.Instr) api.ThreadCode {
	return api.ThreadCode{Regs: regs, Instrs: instrs}
}

// events is a number of events that differs from all other numbers of these tests.
const events = 77

func state(pc int, regs []int64, taint ...[]int) api.ThreadState {
	return api.ThreadState{PC: pc, Regs: regs, Taint: taint, Events: events}
}

func cloneOf(s api.ThreadState) api.ThreadState {
	s.Regs, s.Taint = slices.Clone(s.Regs), slices.Clone(s.Taint)
	for i := range s.Taint {
		s.Taint[i] = slices.Clone(s.Taint[i])
	}
	return s
}

func sameState(a, b api.ThreadState) bool {
	return a.PC == b.PC && a.Events == b.Events && slices.Equal(a.Regs, b.Regs) && slices.EqualFunc(a.Taint, b.Taint, slices.Equal[[]int])
}

// shown returns the text of a code and a state, or only their sizes if it would be too long.
func shown(c api.ThreadCode, s api.ThreadState) string {
	reads := len(slices.Concat(s.Taint...))
	if len(c.Instrs)+len(s.Regs)+reads > 100 {
		return fmt.Sprintf("%d instructions with PC %d, %d registers and %d reads", len(c.Instrs), s.PC, len(s.Regs), reads)
	}
	return fmt.Sprint(c, s)
}

// wantState checks the state that Settle returns, and that the one handed in stays as it is.
func wantState(t *testing.T, c api.ThreadCode, s, want api.ThreadState) {
	t.Helper()
	before := cloneOf(s)
	if got, ok := Settle(c, s); !ok || !sameState(got, want) {
		t.Errorf("from %s: %v and %s; want %s", shown(c, s), ok, shown(api.ThreadCode{}, got), shown(api.ThreadCode{}, want))
	}
	if !sameState(s, before) {
		t.Errorf("the state of %s became that of %s", shown(c, before), shown(c, s))
	}
}

func TestExampleOfSettle(t *testing.T) {
	wantState(t, code(2, in(api.IConst, 0, 0, 0, 5), in(api.IBinary, 1, 0, 1, api.EAdd), end), state(0, []int64{0, 2}, nil, []int{4}), state(2, []int64{5, 7}, nil, []int{4}))
}

func TestConst(t *testing.T) {
	for _, n := range []int64{math.MinInt64, -1, 0, 1, 5, 1 << 32, math.MaxInt64} {
		s := state(0, []int64{7, 8, 9}, []int{1}, []int{2, 3}, []int{4})
		wantState(t, code(3, constant(0, n), end), s, state(1, []int64{n, 8, 9}, nil, []int{2, 3}, []int{4}))
		wantState(t, code(3, constant(1, n), end), s, state(1, []int64{7, n, 9}, []int{1}, nil, []int{4}))
		wantState(t, code(3, constant(2, n), end), s, state(1, []int64{7, 8, n}, []int{1}, []int{2, 3}, nil))
	}
}

func TestMove(t *testing.T) {
	s := state(0, []int64{7, 8, 9}, []int{1}, []int{2, 3}, nil)
	wantState(t, code(3, in(api.IMove, 0, 1), end), s, state(1, []int64{8, 8, 9}, []int{2, 3}, []int{2, 3}, nil))
	wantState(t, code(3, in(api.IMove, 1, 0), end), s, state(1, []int64{7, 7, 9}, []int{1}, []int{1}, nil))
	wantState(t, code(3, in(api.IMove, 0, 2), end), s, state(1, []int64{9, 8, 9}, nil, []int{2, 3}, nil))
	wantState(t, code(3, in(api.IMove, 2, 0), end), s, state(1, []int64{7, 8, 7}, []int{1}, []int{2, 3}, []int{1}))
}

func TestUnary(t *testing.T) {
	for _, n := range []int64{math.MinInt64, -7, -1, 0, 1, 2, math.MaxInt64} {
		s := state(0, []int64{n, 5, 6}, []int{2, 4}, []int{1}, nil)
		wantState(t, code(3, in(api.IUnary, 1, 0, 0, api.ENeg), end), s, state(1, []int64{n, -n, 6}, []int{2, 4}, []int{2, 4}, nil))
		not := int64(0)
		if n == 0 {
			not = 1
		}
		wantState(t, code(3, in(api.IUnary, 2, 0, 0, api.ENot), end), s, state(1, []int64{n, 5, not}, []int{2, 4}, []int{1}, []int{2, 4}))
	}
	s := state(0, []int64{3, 5, 6}, []int{2, 4}, []int{1}, nil)
	wantState(t, code(3, in(api.IUnary, 0, 2, 0, api.ENeg), end), s, state(1, []int64{-6, 5, 6}, nil, []int{1}, nil))
}

func TestBinary(t *testing.T) {
	for op := api.EAdd; op <= api.EOr; op++ {
		for _, n := range []int64{math.MinInt64, -2, -1, 0, 1, 3, math.MaxInt64} {
			s := state(0, []int64{n, -7, 6}, []int{2, 4}, []int{3, 4}, nil)
			there, _ := eval.Binary(op, n, -7)
			back, _ := eval.Binary(op, -7, n)
			wantState(t, code(3, in(api.IBinary, 2, 0, 1, op), end), s, state(1, []int64{n, -7, there}, []int{2, 4}, []int{3, 4}, []int{2, 3, 4}))
			wantState(t, code(3, in(api.IBinary, 2, 1, 0, op), end), s, state(1, []int64{n, -7, back}, []int{2, 4}, []int{3, 4}, []int{2, 3, 4}))
		}
	}
}

// The results of some operators, in numbers.
func TestValuesOfBinary(t *testing.T) {
	for op, want := range map[int]int64{api.EAdd: -4, api.ESub: -10, api.EMul: -21, api.EDiv: -2, api.EMod: -1, api.EEq: 0, api.ENe: 1, api.ELt: 1, api.ELe: 1, api.EGt: 0, api.EGe: 0, api.EAnd: 1, api.EOr: 1} {
		wantState(t, code(2, in(api.IBinary, 0, 0, 1, op), end), state(0, []int64{-7, 3}, []int{0}, nil), state(1, []int64{want, 3}, []int{0}, nil))
	}
	for _, op := range []int{api.EDiv, api.EMod} {
		wantState(t, code(2, in(api.IBinary, 0, 0, 1, op), end), state(0, []int64{-7, 0}, nil, []int{0}), state(1, []int64{0, 0}, []int{0}, []int{0}))
	}
}

// The taint does not depend on the values, not even where one operand decides.
func TestTaintsOfBinary(t *testing.T) {
	for op := api.EAdd; op <= api.EOr; op++ {
		for _, r := range []struct{ b, c, want []int }{
			{nil, nil, nil}, {[]int{1}, nil, []int{1}}, {nil, []int{1}, []int{1}}, {[]int{1}, []int{1}, []int{1}},
			{[]int{5}, []int{2}, []int{2, 5}}, {[]int{0, 2, 4}, []int{1, 2, 3}, []int{0, 1, 2, 3, 4}},
		} {
			for _, n := range []int64{0, 1} {
				value, _ := eval.Binary(op, n, n)
				wantState(t, code(3, in(api.IBinary, 0, 1, 2, op), end), state(0, []int64{9, n, n}, []int{8}, r.b, r.c), state(1, []int64{value, n, n}, r.want, r.b, r.c))
			}
		}
	}
}

func TestSameRegisters(t *testing.T) {
	s := state(0, []int64{6, 4}, []int{1, 3}, []int{2})
	wantState(t, code(2, in(api.IMove, 0, 0), end), s, state(1, []int64{6, 4}, []int{1, 3}, []int{2}))
	wantState(t, code(2, in(api.IUnary, 0, 0, 0, api.ENeg), end), s, state(1, []int64{-6, 4}, []int{1, 3}, []int{2}))
	wantState(t, code(2, in(api.IUnary, 1, 1, 0, api.ENot), end), s, state(1, []int64{6, 0}, []int{1, 3}, []int{2}))
	wantState(t, code(2, in(api.IBinary, 0, 0, 0, api.EMul), end), s, state(1, []int64{36, 4}, []int{1, 3}, []int{2}))
	wantState(t, code(2, in(api.IBinary, 0, 0, 1, api.ESub), end), s, state(1, []int64{2, 4}, []int{1, 2, 3}, []int{2}))
	wantState(t, code(2, in(api.IBinary, 0, 1, 0, api.ESub), end), s, state(1, []int64{-2, 4}, []int{1, 2, 3}, []int{2}))
	wantState(t, code(2, in(api.IBinary, 1, 0, 0, api.EAdd), end), s, state(1, []int64{6, 12}, []int{1, 3}, []int{1, 3}))
}

// Only IBinary makes a list ascending; the others hand it on.
func TestTaintsThatAreNotAscending(t *testing.T) {
	odd, other := []int{5, 1, 5}, []int{3, -2, 3}
	s := state(0, []int64{6, 4, 2}, odd, other, nil)
	wantState(t, code(3, end), s, state(0, []int64{6, 4, 2}, odd, other, nil))
	wantState(t, code(3, constant(2, 2), end), s, state(1, []int64{6, 4, 2}, odd, other, nil))
	wantState(t, code(3, in(api.IMove, 2, 0), end), s, state(1, []int64{6, 4, 6}, odd, other, odd))
	wantState(t, code(3, in(api.IMove, 0, 0), end), s, state(1, []int64{6, 4, 2}, odd, other, nil))
	wantState(t, code(3, in(api.IUnary, 2, 1, 0, api.ENeg), end), s, state(1, []int64{6, 4, -4}, odd, other, other))
	wantState(t, code(3, in(api.IBinary, 2, 0, 1, api.EAdd), end), s, state(1, []int64{6, 4, 10}, odd, other, []int{-2, 1, 3, 5}))
	wantState(t, code(3, in(api.IBinary, 0, 0, 0, api.EAdd), end), s, state(1, []int64{12, 4, 2}, []int{1, 5}, other, nil))
	wantState(t, code(3, in(api.IBinary, 2, 2, 1, api.EAdd), end), s, state(1, []int64{6, 4, 6}, odd, other, []int{-2, 3}))
}

func TestJumps(t *testing.T) {
	one := []int64{7}
	// forwards
	wantState(t, code(1, in(api.IJump, 1), end), state(0, one, []int{2}), state(1, one, []int{2}))
	wantState(t, code(1, in(api.IJump, 2), constant(0, 1), end), state(0, one, []int{2}), state(2, one, []int{2}))
	wantState(t, code(1, in(api.IJump, 2), constant(0, 1), constant(0, 2), end), state(0, one, []int{2}), state(3, []int64{2}, nil))
	// backwards
	wantState(t, code(1, end, in(api.IJump, 0)), state(1, one, []int{2}), state(0, one, []int{2}))
	wantState(t, code(1, constant(0, 4), end, in(api.IJump, 0)), state(2, one, []int{2}), state(1, []int64{4}, nil))
	// both
	wantState(t, code(1, in(api.IJump, 2), end, constant(0, 3), in(api.IJump, 1)), state(0, one, []int{2}), state(1, []int64{3}, nil))
	wantState(t, code(1, in(api.IJump, 4), end, in(api.IJump, 1), in(api.IJump, 2), in(api.IJump, 3)), state(0, one, nil), state(1, one, nil))
	// A jump needs no registers.
	wantState(t, code(0, in(api.IJump, 2), end, in(api.IJump, 1)), state(0, nil), state(1, nil))
}

func TestSequences(t *testing.T) {
	s := state(1, []int64{10, 20, 30, 40}, []int{1}, []int{2}, []int{3}, []int{1, 4})
	c := code(4, constant(3, 99), in(api.IMove, 0, 1), in(api.IMove, 1, 2), in(api.IMove, 2, 0), end)
	wantState(t, c, s, state(4, []int64{20, 30, 20, 40}, []int{2}, []int{3}, []int{2}, []int{1, 4}))
	// A taint that was handed on is not that of the register that it came from.
	c = code(4, end, in(api.IMove, 0, 1), in(api.IBinary, 1, 1, 3, api.EAdd), constant(3, 1), in(api.IBinary, 2, 1, 2, api.ESub), in(api.IJump, 0))
	wantState(t, c, s, state(0, []int64{20, 60, 30, 1}, []int{2}, []int{1, 2, 4}, []int{1, 2, 3, 4}, nil))
	c = code(4, end, in(api.IUnary, 0, 0, 0, api.ENeg), in(api.IMove, 1, 0), in(api.IUnary, 0, 0, 0, api.ENot), constant(2, 5), in(api.IBinary, 0, 0, 2, api.EOr), end)
	wantState(t, c, s, state(6, []int64{1, -10, 5, 40}, []int{1}, []int{1}, nil, []int{1, 4}))
}

// The ops around the silent ones, and those that are no instructions, count as event instructions.
func eventOps() []int {
	ops := []int{math.MinInt, -1, 0, 29, 30, 99, 256 + api.IConst, 1<<32 + api.IJump, math.MaxInt}
	for op := api.ILoad; op <= api.IEnd; op++ {
		ops = append(ops, op)
	}
	return ops
}

func TestEventInstructions(t *testing.T) {
	for _, op := range eventOps() {
		for _, field := range []int{math.MinInt, -1, 0, 1, 2, math.MaxInt} {
			event := in(op, field, field, field, field)
			s := state(1, []int64{7, 8}, []int{3, 1}, nil)
			wantState(t, code(2, constant(0, 1), event, constant(0, 2)), s, s)
			wantState(t, code(2, event, in(api.IMove, 0, 1), event), s, state(2, []int64{8, 8}, nil, nil))
			wantState(t, code(2, event, in(api.IJump, 0)), s, state(0, []int64{7, 8}, []int{3, 1}, nil))
			wantState(t, code(0, event), state(0, nil), state(0, nil))
		}
	}
}

func TestEventsStay(t *testing.T) {
	for _, n := range []int{math.MinInt, -1, 0, 1, 400, math.MaxInt} {
		s, want := state(0, []int64{7}, []int{3}), state(1, []int64{1}, nil)
		s.Events, want.Events = n, n
		wantState(t, code(1, constant(0, 1), end), s, want)
		s.PC = 1
		wantState(t, code(1, constant(0, 1), end), s, s)
	}
}

// A field that names no register may have any value.
func TestFieldsThatAreNotUsed(t *testing.T) {
	for _, n := range []int{math.MinInt, -1, 0, 1, 2, 3, 1 << 32, math.MaxInt} {
		s := state(0, []int64{7, 8}, []int{3}, []int{4})
		wantState(t, code(2, in(api.IConst, 0, n, n, 5), end), s, state(1, []int64{5, 8}, nil, []int{4}))
		wantState(t, code(2, in(api.IMove, 0, 1, n, n), end), s, state(1, []int64{8, 8}, []int{4}, []int{4}))
		wantState(t, code(2, in(api.IUnary, 0, 1, n, api.ENeg), end), s, state(1, []int64{-8, 8}, []int{4}, []int{4}))
		wantState(t, code(2, in(api.IJump, 1, n, n, n), end), s, state(1, []int64{7, 8}, []int{3}, []int{4}))
		for i := range 5 {
			l := []api.Instr{in(api.IConst, 0, 0, 0, 5), in(api.IMove, 0, 1), in(api.IUnary, 0, 1, 0, api.ENeg), in(api.IBinary, 0, 1, 1, api.EAdd), in(api.IJump, 1)}
			l[i].Site = n
			value := []int64{5, 8, -8, 16, 7}[i]
			taint := [][]int{nil, {4}, {4}, {4}, {3}}[i]
			wantState(t, code(2, l[i], end), s, state(1, []int64{value, 8}, taint, []int{4}))
		}
	}
}

// What is not executed need not be in order.
func TestInstructionsThatAreNotReached(t *testing.T) {
	bad := []api.Instr{constant(9, 1), in(api.IMove, -1, 9), in(api.IUnary, 0, 0, 0, 99), in(api.IBinary, 0, 0, 0, api.ENeg), in(api.IJump, -5)}
	for _, i := range bad {
		wantState(t, code(1, i, constant(0, 2), end, i, i), state(1, []int64{7}, []int{3}), state(2, []int64{2}, nil))
		wantState(t, code(1, in(api.IJump, 2), i, constant(0, 2), in(api.IJump, 5), i, end), state(0, []int64{7}, []int{3}), state(5, []int64{2}, nil))
	}
}
