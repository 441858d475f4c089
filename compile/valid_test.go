package compile

import (
	"math"
	"slices"
	"strconv"
	"testing"

	"interleave/api"
)

// P6.4

// richCode returns a code with instructions of each kind in its first thread, which has the sites from 0 on; the second one has one site, the third one none.
func richCode(t *testing.T) api.Code {
	t.Helper()
	return code(t, everything+`thread t(k, l) {
		x = -l + a[k];
		a[l] = v * !x;
		if k { while x { l = 1; } } else { set f 1; }
		lock m { wait c; notify c; notifyall c; }
		read r { } write r { } transaction { } atomic { }
		spawn u; join u; get l g;
	} thread u() { x = 1; } thread w() { }`)
}

func wantValid(t *testing.T, c api.Code, what string, want bool) {
	t.Helper()
	if got := Valid(c); got != want {
		t.Errorf("%s: Valid = %v; want %v", what, got, want)
	}
	if specValid(c) != want {
		t.Errorf("%s: the second definition says %v", what, !want)
	}
}

// specValid is a second definition: the demands on each field stand in lists, and silent instructions are executed one by one.
func specValid(c api.Code) bool {
	if !specValidWorld(c.World) || len(c.Threads) != len(c.World.Threads) {
		return false
	}
	for i, x := range c.Threads {
		n := len(x.Instrs)
		if x.Regs < 0 || x.Regs > 32 || n == 0 {
			return false
		}
		for at, in := range x.Instrs {
			if in.Op < 1 || in.Op > 28 || (in.Op == 28) != (at == n-1) || !specInstr(c.World, i, x, in) {
				return false
			}
		}
		for at := range x.Instrs {
			for steps := 0; x.Instrs[at].Op <= api.IJump; steps++ {
				if steps > n {
					return false
				}
				if x.Instrs[at].Op == api.IJump {
					at = x.Instrs[at].A
				} else {
					at++
				}
			}
		}
	}
	return true
}

func specInstr(w api.World, thread int, x api.ThreadCode, in api.Instr) bool {
	var sites, scalars, arrays, mutexes, rwlocks []int
	for k, s := range w.Sites {
		if s.Thread == thread && in.Op != api.IEnd {
			sites = append(sites, k)
		}
	}
	if in.Op == api.IEnd {
		sites = []int{-1}
	}
	for k, c := range w.Cells {
		if c.Size == 0 {
			scalars = append(scalars, k)
		} else if c.Index == 0 && int64(c.Size) == in.N {
			arrays = append(arrays, k)
		}
	}
	for k, l := range w.Locks {
		if l.RW {
			rwlocks = append(rwlocks, k)
		} else {
			mutexes = append(mutexes, k)
		}
	}
	upTo := func(n int) []int {
		var l []int
		for k := range n {
			l = append(l, k)
		}
		return l
	}
	regs, targets, conds, threads, futures := upTo(x.Regs), upTo(len(x.Instrs)), upTo(len(w.Conds)), upTo(len(w.Threads)), upTo(len(w.Futures))
	none := []int(nil)
	demands := map[int][3][]int{
		api.IConst: {regs, none, none}, api.IMove: {regs, regs, none}, api.IUnary: {regs, regs, none}, api.IBinary: {regs, regs, regs}, api.IJump: {targets, none, none},
		api.ILoad: {regs, scalars, none}, api.ILoadAt: {regs, arrays, regs}, api.IStore: {scalars, regs, none}, api.IStoreAt: {arrays, regs, regs}, api.IBranch: {regs, targets, none},
		api.IAcquire: {mutexes, none, none}, api.IRelease: {mutexes, none, none}, api.IReadAcquire: {rwlocks, none, none}, api.IReadRelease: {rwlocks, none, none}, api.IWriteAcq: {rwlocks, none, none}, api.IWriteRel: {rwlocks, none, none},
		api.IWait: {conds, none, none}, api.INotify: {conds, none, none}, api.INotifyAll: {conds, none, none}, api.ISpawn: {threads, none, none}, api.IJoin: {threads, none, none},
		api.ISet: {futures, regs, none}, api.IGet: {regs, futures, none},
	}[in.Op]
	demanded := map[int][3]bool{
		api.IConst: {true}, api.IMove: {true, true}, api.IUnary: {true, true}, api.IBinary: {true, true, true}, api.IJump: {true},
		api.ILoad: {true, true}, api.ILoadAt: {true, true, true}, api.IStore: {true, true}, api.IStoreAt: {true, true, true}, api.IBranch: {true, true},
		api.IAcquire: {true}, api.IRelease: {true}, api.IReadAcquire: {true}, api.IReadRelease: {true}, api.IWriteAcq: {true}, api.IWriteRel: {true},
		api.IWait: {true}, api.INotify: {true}, api.INotifyAll: {true}, api.ISpawn: {true}, api.IJoin: {true}, api.ISet: {true, true}, api.IGet: {true, true},
	}[in.Op]
	for k, value := range []int{in.A, in.B, in.C} {
		if demanded[k] && !slices.Contains(demands[k], value) {
			return false
		}
	}
	unary, binary := in.N >= 4 && in.N <= 5, in.N >= 6 && in.N <= 18
	return slices.Contains(sites, in.Site) && (in.Op != api.IUnary || unary) && (in.Op != api.IBinary || binary)
}

// setField changes one field of an instruction.
func setField(i *api.Instr, field byte, n int64) {
	switch field {
	case 'O':
		i.Op = int(n)
	case 'A':
		i.A = int(n)
	case 'B':
		i.B = int(n)
	case 'C':
		i.C = int(n)
	case 'N':
		i.N = n
	case 'S':
		i.Site = int(n)
	}
}

// far are numbers that are indices of nothing.
var far = []int64{math.MinInt64, math.MinInt32, -2, -1, 1 << 20, math.MaxInt32, 1 << 32, 1<<32 + 1, math.MaxInt64}

// wantField checks the code with other values in one field of the first instruction of a kind in the first thread.
func wantField(t *testing.T, op int, field byte, good, bad []int64) {
	t.Helper()
	for i, values := range [][]int64{good, bad} {
		for _, n := range values {
			c := richCode(t)
			at := slices.IndexFunc(c.Threads[0].Instrs, func(i api.Instr) bool { return i.Op == op })
			if at < 0 {
				t.Fatalf("the code has no instruction %d", op)
			}
			setField(&c.Threads[0].Instrs[at], field, n)
			wantValid(t, c, "instruction "+strconv.Itoa(op)+" with field "+string(field)+" = "+strconv.FormatInt(n, 10), i == 0)
		}
	}
}

func TestRegistersOfInstructions(t *testing.T) {
	c := richCode(t)
	last := int64(c.Threads[0].Regs - 1)
	if last != 4 {
		t.Fatalf("%d registers", last+1)
	}
	for op, fields := range map[int]string{
		api.IConst: "A", api.IMove: "AB", api.IUnary: "AB", api.IBinary: "ABC", api.ILoad: "A", api.ILoadAt: "AC", api.IStore: "B", api.IStoreAt: "BC", api.IBranch: "A", api.ISet: "B", api.IGet: "A",
	} {
		for _, field := range []byte(fields) {
			wantField(t, op, field, []int64{0, 1, 2, 3, last}, append(slices.Clone(far), last+1, last+2, 31, 32))
		}
	}
}

func TestOperatorsOfInstructions(t *testing.T) {
	wantField(t, api.IUnary, 'N', []int64{api.ENeg, api.ENot}, append(slices.Clone(far), 0, api.ENum, api.EIndex, api.EAdd, api.EOr, api.EOr+1, 1<<32+api.ENeg))
	wantField(t, api.IBinary, 'N', []int64{6, 7, 8, 9, 10, 11, 12, 13, 14, 15, 16, 17, 18}, append(slices.Clone(far), 0, api.ENum, api.EName, api.EIndex, api.ENeg, api.ENot, api.EOr+1, 1<<32+api.EAdd))
}

func TestTargetsOfInstructions(t *testing.T) {
	c := richCode(t)
	n := int64(len(c.Threads[0].Instrs))
	wantField(t, api.IJump, 'A', []int64{0, 1, n - 2, n - 1}, append(slices.Clone(far), n, n+1))
	wantField(t, api.IBranch, 'B', []int64{0, 1, n - 2, n - 1}, append(slices.Clone(far), n, n+1))
	// A branch may lead to itself, for it is an event.
	at := slices.IndexFunc(c.Threads[0].Instrs, func(i api.Instr) bool { return i.Op == api.IBranch })
	wantField(t, api.IBranch, 'B', []int64{int64(at)}, nil)
}

// Cells: x 0, a 1 to 3, v 4, b 5.
func TestCellsOfInstructions(t *testing.T) {
	wantField(t, api.ILoad, 'B', []int64{0, 4}, append(slices.Clone(far), 1, 2, 3, 5, 6))
	wantField(t, api.IStore, 'A', []int64{0, 4}, append(slices.Clone(far), 1, 2, 3, 5, 6))
	for op, field := range map[int]byte{api.ILoadAt: 'B', api.IStoreAt: 'A'} {
		wantField(t, op, field, []int64{1}, append(slices.Clone(far), 0, 2, 3, 4, 5, 6))
		wantField(t, op, 'N', []int64{3}, append(slices.Clone(far), 0, 1, 2, 4, 5, 1<<32+3))
		for cell := range int64(7) {
			for size := range int64(5) {
				c := richCode(t)
				at := slices.IndexFunc(c.Threads[0].Instrs, func(i api.Instr) bool { return i.Op == op })
				setField(&c.Threads[0].Instrs[at], field, cell)
				setField(&c.Threads[0].Instrs[at], 'N', size)
				wantValid(t, c, "array", cell == 1 && size == 3 || cell == 5 && size == 1)
			}
		}
	}
}

// Locks: m 0, r 1, n 2. Conditions: c 0, d 1. Futures: f 0, g 1. Threads: t 0, u 1, w 2.
func TestObjectsOfInstructions(t *testing.T) {
	for _, op := range []int{api.IAcquire, api.IRelease} {
		wantField(t, op, 'A', []int64{0, 2}, append(slices.Clone(far), 1, 3, 4))
	}
	for _, op := range []int{api.IReadAcquire, api.IReadRelease, api.IWriteAcq, api.IWriteRel} {
		wantField(t, op, 'A', []int64{1}, append(slices.Clone(far), 0, 2, 3, 4))
	}
	for _, op := range []int{api.IWait, api.INotify, api.INotifyAll} {
		wantField(t, op, 'A', []int64{0, 1}, append(slices.Clone(far), 2, 3))
	}
	for _, op := range []int{api.ISpawn, api.IJoin} {
		wantField(t, op, 'A', []int64{0, 1, 2}, append(slices.Clone(far), 3, 4))
	}
	wantField(t, api.ISet, 'A', []int64{0, 1}, append(slices.Clone(far), 2, 3))
	wantField(t, api.IGet, 'B', []int64{0, 1}, append(slices.Clone(far), 2, 3))
}

func TestSitesOfInstructions(t *testing.T) {
	c := richCode(t)
	other := int64(len(c.World.Sites) - 1)
	for op := api.IConst; op < api.IEnd; op++ {
		wantField(t, op, 'S', []int64{0, 1, other - 1}, append(slices.Clone(far), other, other+1))
	}
	wantField(t, api.IEnd, 'S', []int64{-1}, []int64{math.MinInt64, -2, 0, 1, other, other + 1, math.MaxInt64})
	c.Threads[1].Instrs[0].Site = int(other - 1)
	wantValid(t, c, "a site of the thread ahead", false)
	c = richCode(t)
	c.Threads[2].Instrs = []api.Instr{{Op: api.IAtomicBegin, Site: int(other)}, {Op: api.IEnd, Site: -1}}
	wantValid(t, c, "a site of another thread", false)
}

func TestKindsOfInstructions(t *testing.T) {
	for op := api.IConst; op <= api.IEnd; op++ {
		wantField(t, op, 'O', []int64{int64(op)}, append(slices.Clone(far), 0, 29, 30, 1<<32+int64(op)))
	}
	for op := api.IConst; op < api.IEnd; op++ {
		wantField(t, op, 'O', nil, []int64{api.IEnd})
		c := richCode(t)
		c.Threads[1].Instrs[1] = c.Threads[0].Instrs[slices.IndexFunc(c.Threads[0].Instrs, func(i api.Instr) bool { return i.Op == op })]
		c.Threads[1].Instrs[1].Site = len(c.World.Sites) - 1
		c.Threads[1].Regs = 32
		switch op {
		case api.IJump:
			c.Threads[1].Instrs[1].A = 2
		case api.IBranch:
			c.Threads[1].Instrs[1].B = 2
		}
		wantValid(t, c, "instruction "+strconv.Itoa(op)+" in another thread", true)
		c.Threads[1].Instrs[2] = c.Threads[1].Instrs[1]
		wantValid(t, c, "instruction "+strconv.Itoa(op)+" at the end", false)
	}
	c := richCode(t)
	c.Threads[0].Instrs = append(c.Threads[0].Instrs, api.Instr{Op: api.IEnd, Site: -1})
	wantValid(t, c, "two ends", false)
	c = richCode(t)
	c.Threads[1].Instrs = slices.Insert(c.Threads[1].Instrs, 0, api.Instr{Op: api.IEnd, Site: -1})
	wantValid(t, c, "an end at the beginning", false)
}

func TestFieldsThatAreNotUsed(t *testing.T) {
	used := map[int]string{
		api.IConst: "A", api.IMove: "AB", api.IUnary: "ABN", api.IBinary: "ABCN", api.IJump: "A", api.ILoad: "AB", api.ILoadAt: "ABCN", api.IStore: "AB", api.IStoreAt: "ABCN", api.IBranch: "AB",
		api.IAcquire: "A", api.IRelease: "A", api.IReadAcquire: "A", api.IReadRelease: "A", api.IWriteAcq: "A", api.IWriteRel: "A", api.ITxBegin: "", api.ITxEnd: "", api.IAtomicBegin: "", api.IAtomicEnd: "",
		api.IWait: "A", api.INotify: "A", api.INotifyAll: "A", api.ISpawn: "A", api.IJoin: "A", api.ISet: "AB", api.IGet: "AB", api.IEnd: "",
	}
	for op := api.IConst; op <= api.IEnd; op++ {
		for _, field := range []byte("ABCN") {
			if !slices.Contains([]byte(used[op]), field) {
				wantField(t, op, field, append(slices.Clone(far), 0, 1, 2, 3, 4, 5, 6, 29, 99), nil)
			}
		}
	}
	// The number of a constant is any number, which no other rule speaks of.
	wantField(t, api.IConst, 'N', append(slices.Clone(far), 0, 19), nil)
}

func TestNumbersOfRegisters(t *testing.T) {
	for _, regs := range []int{5, 6, 31, 32} {
		c := richCode(t)
		c.Threads[0].Regs = regs
		wantValid(t, c, "more registers", true)
	}
	for _, regs := range []int{math.MinInt, -1, 0, 1, 2, 3, 4, 33, 34, math.MaxInt} {
		c := richCode(t)
		c.Threads[0].Regs = regs
		wantValid(t, c, "other registers", false)
	}
	for _, regs := range []int{0, 1, 32} {
		c := richCode(t)
		c.Threads[2].Regs = regs
		wantValid(t, c, "registers that no instruction names", true)
	}
	for _, regs := range []int{math.MinInt, -1, 33, math.MaxInt} {
		c := richCode(t)
		c.Threads[2].Regs = regs
		wantValid(t, c, "registers that no instruction names", false)
	}
}

func TestThreadsOfCodes(t *testing.T) {
	c := richCode(t)
	for what, threads := range map[string][]api.ThreadCode{
		"none": nil, "one": c.Threads[:1], "two": c.Threads[:2], "four": append(slices.Clone(c.Threads), c.Threads[2]), "no instructions at first": {{}, c.Threads[1], c.Threads[2]},
		"no instructions at last": {c.Threads[0], c.Threads[1], {}}, "another order": {c.Threads[1], c.Threads[0], c.Threads[2]},
		"silent at last": {c.Threads[0], c.Threads[1], {Regs: 1, Instrs: []api.Instr{{Op: api.IConst}}}},
	} {
		wantValid(t, api.Code{World: c.World, Threads: threads}, what, false)
	}
	end := api.ThreadCode{Instrs: []api.Instr{{Op: api.IEnd, Site: -1}}}
	wantValid(t, api.Code{World: c.World, Threads: []api.ThreadCode{end, end, end}}, "ends", true)
	wantValid(t, api.Code{World: api.World{Threads: []string{"t"}}, Threads: []api.ThreadCode{end}}, "least", true)
	wantValid(t, api.Code{Threads: []api.ThreadCode{end}}, "no world", false)
	wantValid(t, api.Code{World: api.World{Threads: []string{"t"}}}, "no code", false)
	wantValid(t, api.Code{}, "zero", false)
}

func TestWorldsOfCodes(t *testing.T) {
	for what, change := range map[string]func(w *api.World){
		"a name":    func(w *api.World) { w.Futures[0] = "if" },
		"an index":  func(w *api.World) { w.Cells[0].Index = 1 },
		"a site":    func(w *api.World) { w.Sites[0].Stmt = 1 },
		"a cond":    func(w *api.World) { w.Conds[1].Mutex = 1 },
		"no sites":  func(w *api.World) { w.Sites = nil },
		"no cells":  func(w *api.World) { w.Cells = nil },
		"no locks":  func(w *api.World) { w.Locks, w.Conds = nil, nil },
		"no conds":  func(w *api.World) { w.Conds = nil },
		"no future": func(w *api.World) { w.Futures = nil },
		"threads":   func(w *api.World) { w.Threads = append(w.Threads, "z") },
	} {
		c := richCode(t)
		change(&c.World)
		wantValid(t, c, what, false)
	}
	c := richCode(t)
	c.World.Sites[0].Line, c.World.Cells[0].Init, c.World.Threads[0] = -5, math.MinInt64, "other"
	wantValid(t, c, "another line, value, name", true)
}

// small returns a code of one thread with two cells, x and the array a of one element, and one statement; an end follows the instructions.
func small(instrs ...api.Instr) api.Code {
	w := api.World{Cells: []api.Cell{{Name: "x"}, {Name: "a", Size: 1}}, Threads: []string{"t"}, Sites: []api.Site{{}}}
	return api.Code{World: w, Threads: []api.ThreadCode{{Regs: 3, Instrs: append(slices.Clone(instrs), api.Instr{Op: api.IEnd, Site: -1})}}}
}

func TestSilentInstructionsReachEvents(t *testing.T) {
	jump := func(a int) api.Instr { return api.Instr{Op: api.IJump, A: a} }
	branch := func(b int) api.Instr { return api.Instr{Op: api.IBranch, B: b} }
	silent := []api.Instr{{Op: api.IConst}, {Op: api.IMove, B: 1}, {Op: api.IUnary, N: api.ENot}, {Op: api.IBinary, N: api.EMul}}
	event := api.Instr{Op: api.IStore}
	rows := []struct {
		instrs []api.Instr
		want   bool
	}{
		{nil, true},
		{silent, true},
		{[]api.Instr{jump(1)}, true},
		{[]api.Instr{jump(0)}, false},
		{[]api.Instr{jump(2), jump(2)}, true},
		{[]api.Instr{jump(1), jump(0)}, false},
		{[]api.Instr{jump(1), jump(1)}, false},
		{[]api.Instr{jump(2), jump(0)}, true},
		{[]api.Instr{event, jump(0)}, true},
		{[]api.Instr{event, jump(1)}, false},
		{[]api.Instr{branch(0), jump(0)}, true},
		{[]api.Instr{branch(1), jump(1)}, false},
		// The cycle cannot be reached from the beginning.
		{[]api.Instr{jump(3), silent[0], jump(1)}, false},
		{[]api.Instr{jump(3), event, jump(1)}, true},
		{[]api.Instr{event, event, jump(5), jump(4), jump(3)}, false},
		// Several walks end at one instruction.
		{[]api.Instr{jump(4), jump(4), jump(4), jump(0), silent[0], silent[1], jump(7)}, true},
		{[]api.Instr{jump(4), jump(4), jump(4), jump(0), silent[0], silent[1], jump(3)}, false},
		{[]api.Instr{jump(4), jump(0), jump(1), jump(2), event, jump(3)}, true},
		{[]api.Instr{jump(5), jump(0), jump(1), jump(2), event, jump(3)}, false},
		{[]api.Instr{jump(2), event, jump(4), jump(1), jump(3)}, true},
	}
	for n, r := range rows {
		wantValid(t, small(r.instrs...), "row "+strconv.Itoa(n), r.want)
	}
	for n, s := range silent {
		wantValid(t, small(s, jump(0)), "silent instruction "+strconv.Itoa(n), false)
		wantValid(t, small(event, s, jump(0)), "silent instruction "+strconv.Itoa(n), true)
		wantValid(t, small(s, s, s, jump(1), event), "silent instruction "+strconv.Itoa(n), false)
		wantValid(t, small(s, jump(2), s), "silent instruction "+strconv.Itoa(n), true)
	}
}

// Each event instruction ends a walk.
func TestEventInstructionsInCycles(t *testing.T) {
	seen := map[int]bool{}
	c := richCode(t)
	for at, i := range c.Threads[0].Instrs {
		if seen[i.Op] || i.Op == api.IJump || i.Op == api.IEnd {
			continue
		}
		seen[i.Op] = true
		c := richCode(t)
		c.Threads[0].Instrs[at+1] = api.Instr{Op: api.IJump, A: at}
		if at+1 < len(c.Threads[0].Instrs)-1 {
			wantValid(t, c, "a cycle with instruction "+strconv.Itoa(i.Op), i.Op > api.IJump)
		}
	}
	c = richCode(t)
	n := len(c.Threads[0].Instrs)
	c.Threads[0].Instrs[n-2] = api.Instr{Op: api.IConst}
	wantValid(t, c, "a silent instruction ahead of the end", true)
	c.Threads[0].Instrs[n-2] = api.Instr{Op: api.IJump, A: n - 1}
	wantValid(t, c, "a jump ahead of the end", true)
	c.Threads[0].Instrs[n-2].A = n - 2
	wantValid(t, c, "a jump ahead of the end to itself", false)
}

// Every instruction with another value of one field, against the second definition.
func TestEveryFieldOfCodes(t *testing.T) {
	valid := map[bool]int{}
	numbers := slices.Clone(far)
	for n := range int64(64) {
		numbers = append(numbers, n)
	}
	c := richCode(t)
	for _, x := range c.Threads {
		for at, old := range x.Instrs {
			for _, field := range []byte("OABCNS") {
				for _, n := range numbers {
					setField(&x.Instrs[at], field, n)
					got := Valid(c)
					valid[got]++
					if got != specValid(c) {
						t.Errorf("instruction %d with field %c = %d: Valid = %v", at, field, n, got)
					}
					x.Instrs[at] = old
				}
			}
		}
	}
	if valid[true] < 1000 || valid[false] < 1000 {
		t.Errorf("%d valid codes, %d others", valid[true], valid[false])
	}
}
