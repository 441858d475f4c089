package silent

import (
	"fmt"
	"math"
	"slices"
	"sync"
	"testing"

	"interleave/api"
)

// P1

// numbers returns 0, step, 2 * step and so on, n numbers.
func numbers(n, step int) []int {
	var l []int
	for i := range n {
		l = append(l, i*step)
	}
	return l
}

func TestLongLists(t *testing.T) {
	const n = 1 << 20
	even, thirds := numbers(n, 2), numbers(n, 3)
	l := Union(even, thirds)
	if len(l) != 2*n-n/3-1 || !slices.IsSorted(l) || l[0] != 0 || l[len(l)-1] != 3*(n-1) {
		t.Errorf("%d numbers from %d to %d", len(l), l[0], l[len(l)-1])
	}
	slices.Reverse(even)
	if !slices.Equal(Union(thirds, even), l) || !slices.Equal(Union(even, l), l) {
		t.Error("another order gives other numbers")
	}
	if l := Union(make([]int, n), make([]int, n)); !slices.Equal(l, []int{0}) {
		t.Errorf("the same number gives %d numbers", len(l))
	}
}

func TestLongCodes(t *testing.T) {
	const n = 1 << 20
	l := append(make([]api.Instr, n), end)
	s := state(0, []int64{5, 1}, []int{3}, []int{4})
	for _, row := range []struct {
		i     api.Instr
		value int64
		taint []int
	}{
		{constant(0, 9), 9, nil},
		{in(api.IMove, 0, 1), 1, []int{4}},
		{in(api.IUnary, 0, 0, 0, api.ENeg), 5, []int{3}},
		{in(api.IBinary, 0, 0, 1, api.EAdd), 5 + n, []int{3, 4}},
	} {
		for at := range n {
			l[at] = row.i
		}
		wantState(t, code(2, l...), s, state(n, []int64{row.value, 1}, row.taint, []int{4}))
		wantNone(t, code(2, l[:n]...), s)
	}
}

func TestLongJumps(t *testing.T) {
	const n = 1 << 20
	l := append(make([]api.Instr, n), end)
	evensFirst := func(at int) int {
		if at == n-2 {
			return 1
		}
		return min(at+2, n)
	}
	for what, way := range map[string]struct {
		jump func(at int) int
		ends bool
	}{
		"forwards":          {func(at int) int { return at + 1 }, true},
		"to the end":        {func(at int) int { return n }, true},
		"backwards":         {func(at int) int { return (at + n) % (n + 1) }, true},
		"even ones first":   {evensFirst, true},
		"in a cycle":        {func(at int) int { return (at + 1) % n }, false},
		"backwards, cyclic": {func(at int) int { return (at + n - 1) % n }, false},
		"to itself at last": {func(at int) int { return min(at+1, n-1) }, false},
		"too far":           {func(at int) int { return at + 1 + at/(n-1) }, false},
	} {
		for at := range n {
			l[at] = in(api.IJump, way.jump(at))
		}
		got, ok := Settle(code(1, l...), state(0, []int64{5}, []int{3}))
		want := state(n, []int64{5}, []int{3})
		if !way.ends {
			want = api.ThreadState{}
		}
		if ok != way.ends || !sameState(got, want) {
			t.Errorf("jumps %s: %v, %v", what, got, ok)
		}
	}
}

func TestManyRegistersAndReads(t *testing.T) {
	const n = 1 << 16
	var l []api.Instr
	s, want := state(0, make([]int64, n), make([][]int, n)...), state(n-1, make([]int64, n), make([][]int, n)...)
	for r := range n {
		s.Regs[r], want.Regs[r] = 1, int64(r+1)
		s.Taint[r], want.Taint[r] = []int{r % 5, 7}, append(numbers(min(r+1, 5), 1), 7)
		if r > 0 {
			l = append(l, in(api.IBinary, r, r, r-1, api.EAdd))
		}
	}
	wantState(t, code(n, append(l, end)...), s, want)
	even, odd := numbers(n, 2), numbers(n, 2)
	for i := range odd {
		odd[i]++
	}
	wantState(t, code(3, in(api.IBinary, 2, 1, 0, api.EAdd), in(api.IMove, 0, 2), end), state(0, []int64{1, 2, 4}, even, odd, nil), state(2, []int64{3, 2, 3}, numbers(2*n, 1), odd, numbers(2*n, 1)))
}

func TestAnyValues(t *testing.T) {
	edges := []int{math.MinInt, math.MinInt + 1, math.MinInt32, -2, -1, 0, 1, 2, 3, 4, 5, 6, 28, 29, math.MaxInt32, math.MaxInt - 1, math.MaxInt}
	for _, n := range edges {
		for op := -1; op < 30; op++ {
			i := in(op, n, n, n, n)
			for regs := range 4 {
				for _, declared := range []int{regs, n} {
					for _, pc := range []int{0, n} {
						s := api.ThreadState{PC: pc, Regs: slices.Repeat([]int64{int64(n)}, regs), Taint: slices.Repeat([][]int{{n, n}}, regs), Events: n}
						c := code(declared, i, i, i)
						want, ok := specSettle(c, s)
						if got, settled := Settle(c, s); settled != ok || !sameState(got, want) {
							t.Errorf("Settle(%v, %v) = %v, %v; want %v, %v", c, s, got, settled, want, ok)
						}
					}
				}
			}
		}
	}
}

// P2

// spare returns l with spare capacity that holds x.
func spare[T any](l []T, x T) []T {
	return slices.Concat(l, []T{x, x, x})[:len(l)]
}

func all[T any](l []T) string {
	return fmt.Sprint(l[:len(l)+3])
}

func TestArgumentsOfUnionStay(t *testing.T) {
	for _, l := range shortLists(3, 1, 2, 3) {
		a, b := spare(l, -9), spare([]int{2, 1, 2}, -8)
		before := all(a) + all(b)
		wantUnion(t, a, b, specUnion(a, b))
		wantUnion(t, a, nil, specUnion(a, nil))
		wantUnion(t, a, a, specUnion(a, nil))
		if all(a)+all(b) != before {
			t.Errorf("%s became %s", before, all(a)+all(b))
		}
	}
	// Both lists are parts of one.
	l := []int{9, 8, 7, 6}
	wantUnion(t, l[:2], l[1:3], []int{7, 8, 9})
	if !slices.Equal(l, []int{9, 8, 7, 6}) {
		t.Errorf("the list became %v", l)
	}
}

// overwrite fills a list with its spare capacity.
func overwrite[T any](l []T, x T) {
	l = l[:cap(l)]
	for i := range l {
		l[i] = x
	}
}

func TestUnionsAreNew(t *testing.T) {
	for _, a := range [][]int{nil, {}, {1}, {1, 2, 3}, {3, 1}} {
		for _, b := range [][]int{nil, {}, {1}, {4, 5}} {
			a, b := spare(a, -9), spare(b, -8)
			before := all(a) + all(b)
			first, second := Union(a, b), Union(a, b)
			overwrite(first, 99)
			if all(a)+all(b) != before || !slices.Equal(second, specUnion(a, b)) {
				t.Errorf("the union of %v and %v shares memory", a, b)
			}
			overwrite(a, 98)
			overwrite(b, 97)
			if slices.Contains(second, 98) || slices.Contains(second, 97) {
				t.Errorf("%v shares memory with an argument", second)
			}
		}
	}
}

// spareState returns a state and a code of which all lists have spare capacity.
func spareState(instrs ...api.Instr) (api.ThreadCode, api.ThreadState) {
	taints := [][]int{spare([]int{3, 5}, -7), spare([]int{4}, -7), spare([]int{}, -7), spare([]int{9, 9, 1}, -7)}
	s := state(0, spare([]int64{10, 20, 30, 40}, -6), spare(taints, []int{-5})...)
	return code(4, spare(instrs, constant(0, -4))...), s
}

func wholeState(c api.ThreadCode, s api.ThreadState) string {
	text := all(c.Instrs) + all(s.Regs) + all(s.Taint) + fmt.Sprint(c.Regs, s.PC, s.Events)
	for _, l := range s.Taint {
		text += all(l)
	}
	return text
}

// ways are silent instructions with an event or something wrong behind them.
func ways() [][]api.Instr {
	add, move, unary := in(api.IBinary, 0, 0, 1, api.EAdd), in(api.IMove, 2, 0), in(api.IUnary, 1, 0, 0, api.ENeg)
	var l [][]api.Instr
	for _, last := range []api.Instr{end, in(api.IJump, 9), constant(4, 1), in(api.IMove, 0, 4), in(api.IUnary, 0, 0, 0, 9), in(api.IBinary, 0, 0, 0, 4), in(api.IJump, 0)} {
		l = append(l, []api.Instr{last}, []api.Instr{add, last}, []api.Instr{move, last}, []api.Instr{unary, last}, []api.Instr{constant(3, 1), last}, []api.Instr{add, move, unary, add, constant(3, 1), last})
	}
	return l
}

func TestArgumentsOfSettleStay(t *testing.T) {
	for _, l := range ways() {
		c, s := spareState(l...)
		before := wholeState(c, s)
		want, reached := specSettle(c, s)
		if got, ok := Settle(c, s); ok != reached || !sameState(got, want) {
			t.Errorf("Settle(%v, %v) = %v, %v", c, s, got, ok)
		}
		if after := wholeState(c, s); after != before {
			t.Errorf("Settle along %v: %s became %s", l, before, after)
		}
	}
}

func TestStatesAreNew(t *testing.T) {
	for _, l := range ways() {
		c, s := spareState(l...)
		before := wholeState(c, s)
		first, _ := Settle(c, s)
		second, ok := Settle(c, s)
		want, _ := specSettle(c, s)
		if !ok {
			continue
		}
		// Each list keeps its values while those ahead of it are overwritten.
		overwrite(first.Regs, -1)
		for i, taint := range first.Taint {
			if !slices.Equal(taint, want.Taint[i]) {
				t.Errorf("along %v, taint %d shares memory with another one", l, i)
			}
			overwrite(taint, -1)
		}
		overwrite(first.Taint, nil)
		if after := wholeState(c, s); after != before {
			t.Errorf("the state that was reached along %v shares memory with an argument", l)
		}
		for _, taint := range s.Taint {
			overwrite(taint, -2)
		}
		overwrite(s.Taint, nil)
		overwrite(s.Regs, -2)
		overwrite(c.Instrs, api.Instr{})
		if !sameState(second, want) {
			t.Errorf("the state that was reached along %v became %v", l, second)
		}
	}
}

// One list as the taint of several registers is like several lists.
func TestTaintsThatShareMemory(t *testing.T) {
	reads := []int{4, 2, 7}
	s := state(0, []int64{1, 2, 3}, reads, reads, reads[:2])
	for _, l := range [][]api.Instr{{end}, {in(api.IMove, 2, 0), end}, {in(api.IMove, 0, 1), in(api.IUnary, 1, 1, 0, api.ENeg), end}} {
		c := code(3, l...)
		got, ok := Settle(c, s)
		want, _ := specSettle(c, s)
		if !ok || !sameState(got, want) {
			t.Fatalf("Settle along %v = %v, %v; want %v", l, got, ok, want)
		}
		for i := range got.Taint {
			if !slices.Equal(got.Taint[i], want.Taint[i]) {
				t.Errorf("along %v, taint %d shares memory with another one", l, i)
			}
			overwrite(got.Taint[i], -1)
		}
		if !slices.Equal(reads, []int{4, 2, 7}) {
			t.Fatalf("along %v, the state shares memory with an argument", l)
		}
	}
}

// P3

func TestCallsAreIndependent(t *testing.T) {
	type call struct {
		c      api.ThreadCode
		s      api.ThreadState
		result string
	}
	result := func(c call) string {
		s, ok := Settle(c.c, c.s)
		l := []int{0}
		for _, taint := range c.s.Taint {
			l = Union(l, taint)
		}
		return fmt.Sprint(s, ok, l)
	}
	var calls []call
	for seed := range uint64(500) {
		m := newMaker(seed)
		c := call{c: m.code()}
		c.s = m.state(c.c.Regs, m.index(len(c.c.Instrs)))
		c.result = result(c)
		calls = append(calls, c)
	}
	var wait sync.WaitGroup
	for range 8 {
		wait.Go(func() {
			for range 10 {
				for _, c := range calls {
					if got := result(c); got != c.result {
						t.Errorf("results %s and %s of one call", got, c.result)
					}
				}
			}
		})
	}
	wait.Wait()
}

// P6

func TestNilAndEmptySlicesAreEquivalent(t *testing.T) {
	for _, regs := range [][]int64{nil, {}} {
		for _, taint := range [][][]int{nil, {}} {
			for _, instrs := range [][]api.Instr{nil, {}} {
				wantNone(t, code(0, instrs...), state(0, regs, taint...))
				wantNone(t, code(1, instrs...), state(0, regs, taint...))
			}
			wantState(t, code(0, in(api.IJump, 1), end), state(0, regs, taint...), state(1, nil))
			wantNone(t, code(1, end), state(0, regs, taint...))
			wantNone(t, code(1, end), state(0, regs, nil))
			wantNone(t, code(1, end), state(0, []int64{5}, taint...))
		}
	}
	for _, a := range [][]int{nil, {}} {
		for _, b := range [][]int{nil, {}} {
			s := state(0, []int64{1, 2}, a, b)
			wantState(t, code(2, end), s, state(0, []int64{1, 2}, nil, nil))
			wantState(t, code(2, in(api.IMove, 0, 1), end), s, state(1, []int64{2, 2}, nil, nil))
			wantState(t, code(2, in(api.IUnary, 0, 1, 0, api.ENeg), end), s, state(1, []int64{-2, 2}, nil, nil))
			wantState(t, code(2, in(api.IBinary, 0, 0, 1, api.EAdd), end), s, state(1, []int64{3, 2}, nil, nil))
		}
	}
}

// P7

func TestGreatNumbers(t *testing.T) {
	s := state(0, []int64{math.MinInt64, math.MaxInt64, -1}, []int{math.MaxInt}, []int{math.MinInt}, nil)
	both := []int{math.MinInt, math.MaxInt}
	for op, want := range map[int]int64{api.EAdd: -1, api.ESub: 1, api.EMul: math.MinInt64, api.EDiv: -1, api.EMod: -1, api.ELt: 1} {
		wantState(t, code(3, in(api.IBinary, 2, 0, 1, op), end), s, state(1, []int64{math.MinInt64, math.MaxInt64, want}, []int{math.MaxInt}, []int{math.MinInt}, both))
	}
	for op, want := range map[int]int64{api.EDiv: math.MinInt64, api.EMod: 0, api.EMul: math.MinInt64, api.EAdd: math.MaxInt64} {
		wantState(t, code(3, in(api.IBinary, 0, 0, 2, op), end), s, state(1, []int64{want, math.MaxInt64, -1}, []int{math.MaxInt}, []int{math.MinInt}, nil))
	}
	wantState(t, code(3, in(api.IUnary, 0, 0, 0, api.ENeg), end), s, state(1, []int64{math.MinInt64, math.MaxInt64, -1}, []int{math.MaxInt}, []int{math.MinInt}, nil))
}
