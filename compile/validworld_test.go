package compile

import (
	"math"
	"slices"
	"strconv"
	"strings"
	"testing"

	"interleave/api"
	"interleave/token"
)

// P6.2

const everything = "var x = 4; var a[3] = -1; volatile v = 7; var b[1]; mutex m; rwlock r; mutex n; cond c m; cond d n; future f; future g;\n"

// richWorld returns a world with objects of each kind: cells x 0, a 1 to 3, v 4, b 5; locks m 0, r 1, n 2; sites 0 to 2 of t, none of u, 3 and 4 of w.
func richWorld(t *testing.T) api.World {
	return World(program(t, everything+"thread t(k) { if x { x = 1; }\n x = 2; } thread u() { } thread w(l) { x = 3; x = 4; }"))
}

func wantWorldValid(t *testing.T, w api.World, what string, want bool) {
	t.Helper()
	if got := ValidWorld(w); got != want {
		t.Errorf("%s: ValidWorld(%.600v) = %v; want %v", what, w, got, want)
	}
	if specValidWorld(w) != want {
		t.Errorf("%s: the second definition says %v", what, !want)
	}
}

// specValidWorld is a second definition: it examines each cell by itself and keeps the names in a set.
func specValidWorld(w api.World) bool {
	if len(w.Cells) > 12 || len(w.Locks) > 4 || len(w.Conds) > 2 || len(w.Futures) > 2 || len(w.Threads) < 1 || len(w.Threads) > 4 || len(w.Sites) > 60 {
		return false
	}
	names := map[string]bool{}
	good := true
	add := func(name string) {
		good = good && token.IsName(name) && !names[name]
		names[name] = true
	}
	for i, c := range w.Cells {
		good = good && specCell(w.Cells, i)
		if c.Index == 0 {
			add(c.Name)
		}
	}
	for _, l := range w.Locks {
		add(l.Name)
	}
	for _, c := range w.Conds {
		add(c.Name)
		good = good && c.Mutex >= 0 && c.Mutex < len(w.Locks) && !w.Locks[c.Mutex].RW
	}
	for _, name := range slices.Concat(w.Futures, w.Threads) {
		add(name)
	}
	for i, s := range w.Sites {
		first := slices.IndexFunc(w.Sites, func(x api.Site) bool { return x.Thread == s.Thread })
		good = good && s.Thread >= 0 && s.Thread < len(w.Threads) && s.Stmt == i-first && (i == 0 || w.Sites[i-1].Thread <= s.Thread)
	}
	return good
}

func specCell(cells []api.Cell, i int) bool {
	c := cells[i]
	if c.Size == 0 {
		return c.Index == 0
	}
	if c.Size < 1 || c.Size > 4 || c.Volatile || c.Index < 0 || c.Index >= c.Size || i-c.Index < 0 || i-c.Index+c.Size > len(cells) {
		return false
	}
	for k, x := range cells[i-c.Index : i-c.Index+c.Size] {
		if x.Index != k || x.Name != c.Name || x.Size != c.Size || x.Init != c.Init {
			return false
		}
	}
	return true
}

func TestWorldsOfOneBrokenField(t *testing.T) {
	for what, change := range map[string]func(w *api.World){
		"a scalar with an index":              func(w *api.World) { w.Cells[0].Index = 1 },
		"a scalar with a negative index":      func(w *api.World) { w.Cells[0].Index = -1 },
		"a volatile with an index":            func(w *api.World) { w.Cells[4].Index = 1 },
		"a scalar of negative size":           func(w *api.World) { w.Cells[0].Size = -1 },
		"a scalar of the least size":          func(w *api.World) { w.Cells[0].Size = math.MinInt },
		"a scalar of size 2":                  func(w *api.World) { w.Cells[0].Size = 2 },
		"a scalar of size 5":                  func(w *api.World) { w.Cells[0].Size = 5 },
		"a scalar of the greatest size":       func(w *api.World) { w.Cells[0].Size = math.MaxInt },
		"a volatile of size 1":                func(w *api.World) { w.Cells[4].Size = 1 },
		"an array that is volatile at first":  func(w *api.World) { w.Cells[1].Volatile = true },
		"an array that is volatile later":     func(w *api.World) { w.Cells[2].Volatile = true },
		"an array that is volatile at last":   func(w *api.World) { w.Cells[3].Volatile = true },
		"an array of one volatile cell":       func(w *api.World) { w.Cells[5].Volatile = true },
		"an array of one cell, index 1":       func(w *api.World) { w.Cells[5].Index = 1 },
		"an array of one cell, size 2":        func(w *api.World) { w.Cells[5].Size = 2 },
		"an array of one cell, size -1":       func(w *api.World) { w.Cells[5].Size = -1 },
		"an array's first index":              func(w *api.World) { w.Cells[1].Index = 1 },
		"an array's negative first index":     func(w *api.World) { w.Cells[1].Index = -1 },
		"an array's second index 0":           func(w *api.World) { w.Cells[2].Index = 0 },
		"an array's second index 2":           func(w *api.World) { w.Cells[2].Index = 2 },
		"an array's last index":               func(w *api.World) { w.Cells[3].Index = 3 },
		"an array's first name":               func(w *api.World) { w.Cells[1].Name = "z" },
		"an array's second name":              func(w *api.World) { w.Cells[2].Name = "z" },
		"an array's last name":                func(w *api.World) { w.Cells[3].Name = "z" },
		"an array's first size":               func(w *api.World) { w.Cells[1].Size = 2 },
		"an array's first size 0":             func(w *api.World) { w.Cells[1].Size = 0 },
		"an array's first size 4":             func(w *api.World) { w.Cells[1].Size = 4 },
		"an array's second size":              func(w *api.World) { w.Cells[2].Size = 4 },
		"an array's second size 0":            func(w *api.World) { w.Cells[2].Size = 0 },
		"an array's last size":                func(w *api.World) { w.Cells[3].Size = 2 },
		"an array's last size 0":              func(w *api.World) { w.Cells[3].Size = 0 },
		"an array's first value":              func(w *api.World) { w.Cells[1].Init = 0 },
		"an array's second value":             func(w *api.World) { w.Cells[2].Init = 1 },
		"an array's last value":               func(w *api.World) { w.Cells[3].Init = -2 },
		"a condition on a reader-writer lock": func(w *api.World) { w.Conds[0].Mutex = 1 },
		"a condition on a negative lock":      func(w *api.World) { w.Conds[0].Mutex = -1 },
		"a condition on a lock behind all":    func(w *api.World) { w.Conds[1].Mutex = 3 },
		"a condition on the greatest lock":    func(w *api.World) { w.Conds[1].Mutex = math.MaxInt },
		"a condition on the least lock":       func(w *api.World) { w.Conds[1].Mutex = math.MinInt },
		"a condition's lock turned":           func(w *api.World) { w.Locks[2].RW = true },
		"a site of a thread behind all":       func(w *api.World) { w.Sites[4] = api.Site{Thread: 3} },
		"a site of the greatest thread":       func(w *api.World) { w.Sites[4] = api.Site{Thread: math.MaxInt} },
		"a site of a negative thread":         func(w *api.World) { w.Sites[0].Thread = -1 },
		"a last site of a negative thread":    func(w *api.World) { w.Sites[4] = api.Site{Thread: -1} },
		"a last site of an earlier thread":    func(w *api.World) { w.Sites[4] = api.Site{Thread: 1} },
		"a last site that goes on ahead":      func(w *api.World) { w.Sites[4] = api.Site{Thread: 0, Stmt: 3} },
		"a site ahead of its thread":          func(w *api.World) { w.Sites[2].Thread = 2 },
		"a first number 1":                    func(w *api.World) { w.Sites[0].Stmt = 1 },
		"a first number -1":                   func(w *api.World) { w.Sites[0].Stmt = -1 },
		"a second number 0":                   func(w *api.World) { w.Sites[1].Stmt = 0 },
		"a second number 2":                   func(w *api.World) { w.Sites[1].Stmt = 2 },
		"numbers that go on":                  func(w *api.World) { w.Sites[3].Stmt = 3 },
		"a second thread's first number 1":    func(w *api.World) { w.Sites[3].Stmt = 1 },
		"a second thread's second number 0":   func(w *api.World) { w.Sites[4].Stmt = 0 },
	} {
		w := richWorld(t)
		wantWorldValid(t, w, "unchanged", true)
		change(&w)
		wantWorldValid(t, w, what, false)
	}
}

func TestWorldsThatAreValidAfterAChange(t *testing.T) {
	for what, change := range map[string]func(w *api.World){
		"other values of scalars": func(w *api.World) {
			w.Cells[0].Init, w.Cells[4].Init, w.Cells[5].Init = math.MinInt64, math.MaxInt64, -9
		},
		"another value of an array":      func(w *api.World) { w.Cells[1].Init, w.Cells[2].Init, w.Cells[3].Init = 8, 8, 8 },
		"a scalar that is volatile":      func(w *api.World) { w.Cells[0].Volatile = true },
		"a volatile that is not":         func(w *api.World) { w.Cells[4].Volatile = false },
		"a scalar that is an array":      func(w *api.World) { w.Cells[0].Size = 1 },
		"an array that is a scalar":      func(w *api.World) { w.Cells[5].Size = 0 },
		"another condition's lock":       func(w *api.World) { w.Conds[0].Mutex = 2 },
		"a lock of no condition, turned": func(w *api.World) { w.Locks[1].RW = false },
		"other lines":                    func(w *api.World) { w.Sites[0].Line, w.Sites[1].Line, w.Sites[4].Line = math.MinInt, 0, math.MaxInt },
		"sites of another thread":        func(w *api.World) { w.Sites[3].Thread, w.Sites[4].Thread = 1, 1 },
		"a first site of the last one":   func(w *api.World) { w.Sites[4] = api.Site{Thread: 2}; w.Sites[3].Thread = 1 },
		"only sites of the last one":     func(w *api.World) { w.Sites = []api.Site{{Thread: 2}, {Thread: 2, Stmt: 1}} },
		"no sites":                       func(w *api.World) { w.Sites = nil },
		"no cells":                       func(w *api.World) { w.Cells = nil },
		"no conditions":                  func(w *api.World) { w.Conds = nil },
		"no conditions and locks":        func(w *api.World) { w.Conds, w.Locks = nil, nil },
		"no futures":                     func(w *api.World) { w.Futures = nil },
		"one thread":                     func(w *api.World) { w.Threads, w.Sites = w.Threads[:1], w.Sites[:3] },
	} {
		w := richWorld(t)
		change(&w)
		wantWorldValid(t, w, what, true)
	}
}

func TestLocksOfConditions(t *testing.T) {
	w := richWorld(t)
	w.Locks = nil
	wantWorldValid(t, w, "conditions without locks", false)
	w.Conds[1].Mutex = 0
	wantWorldValid(t, w, "conditions without locks", false)
	w.Conds = nil
	wantWorldValid(t, w, "neither locks nor conditions", true)
}

// namesOfAll returns pointers to the names of a world; the cells of an array have one together.
func namesOfAll(w *api.World) [][]*string {
	all := [][]*string{{&w.Cells[0].Name}, {&w.Cells[1].Name, &w.Cells[2].Name, &w.Cells[3].Name}, {&w.Cells[4].Name}, {&w.Cells[5].Name}}
	for i := range w.Locks {
		all = append(all, []*string{&w.Locks[i].Name})
	}
	for i := range w.Conds {
		all = append(all, []*string{&w.Conds[i].Name})
	}
	for i := range w.Futures {
		all = append(all, []*string{&w.Futures[i]})
	}
	for i := range w.Threads {
		all = append(all, []*string{&w.Threads[i]})
	}
	return all
}

func TestNamesOfWorlds(t *testing.T) {
	w := richWorld(t)
	names := namesOfAll(&w)
	for i, l := range names {
		old := *l[0]
		set := func(s string) {
			for _, p := range l {
				*p = s
			}
		}
		for _, s := range []string{"", "if", "var", "thread", "1a", "_a", "a-b", "a b", " ", "é", "\x00", strings.Repeat("a", api.MaxName+1), strings.Repeat("a", 1<<20)} {
			set(s)
			wantWorldValid(t, w, "name "+strconv.Quote(s[:min(len(s), 20)]), false)
		}
		for _, s := range []string{"z", "If", "a1", "a_", strings.Repeat("a", api.MaxName), "X"} {
			set(s)
			wantWorldValid(t, w, "name "+s, true)
		}
		for j, other := range names {
			if i != j {
				set(*other[0])
				wantWorldValid(t, w, "name "+*other[0]+" twice", false)
			}
		}
		set(old)
	}
	wantWorldValid(t, w, "all names as before", true)
}

func TestArraysSideBySide(t *testing.T) {
	cells := func(name string, size int, init int64) []api.Cell {
		return cellsOf(api.Decl{Kind: api.DVar, Name: name, Size: size, Init: init})
	}
	a2, a3, b2 := cells("a", 2, 0), cells("a", 3, 0), cells("b", 2, 0)
	one := []api.Cell{{Name: "a", Size: 1}}
	scalar := []api.Cell{{Name: "a"}}
	rows := []struct {
		lists [][]api.Cell
		want  bool
	}{
		{[][]api.Cell{a2, b2}, true},
		{[][]api.Cell{b2, a3}, true},
		{[][]api.Cell{a2, a2}, false},
		{[][]api.Cell{a2, a3}, false},
		{[][]api.Cell{one}, true},
		{[][]api.Cell{one, one}, false},
		{[][]api.Cell{one, scalar}, false},
		{[][]api.Cell{scalar, scalar}, false},
		{[][]api.Cell{scalar, a2}, false},
		{[][]api.Cell{a2, scalar}, false},
		{[][]api.Cell{a2[:1], b2, a2[1:]}, false},
		{[][]api.Cell{a2[1:], a2[:1]}, false},
		{[][]api.Cell{a2[1:]}, false},
		{[][]api.Cell{a3[:2]}, false},
		{[][]api.Cell{a3[1:]}, false},
		{[][]api.Cell{a3[:1], b2}, false},
		{[][]api.Cell{a2[:1], b2[1:]}, false},
		{[][]api.Cell{a2[:1], cells("a", 2, 1)[1:]}, false},
		{[][]api.Cell{a2, a3[2:]}, false},
		{[][]api.Cell{cells("a", 4, 5), cells("b", 4, 6), cells("c", 4, 7)}, true},
		{[][]api.Cell{cells("a", 4, 5), cells("b", 4, 6), cells("c", 4, 7), {{Name: "d"}}}, false},
		{[][]api.Cell{cells("a", 5, 0)}, false},
		{[][]api.Cell{cells("a", 5, 0)[:4]}, false},
		{[][]api.Cell{cells("a", 12, 0)}, false},
	}
	for _, r := range rows {
		w := api.World{Cells: slices.Concat(r.lists...), Threads: []string{"t"}}
		wantWorldValid(t, w, "arrays", r.want)
	}
}

// worldOf returns a world with so many objects of each kind.
func worldOf(cells, locks, conds, futures, threads, sites int) api.World {
	var w api.World
	for i := range cells {
		w.Cells = append(w.Cells, api.Cell{Name: "x" + strconv.Itoa(i)})
	}
	for i := range locks {
		w.Locks = append(w.Locks, api.Lock{Name: "m" + strconv.Itoa(i)})
	}
	for i := range conds {
		w.Conds = append(w.Conds, api.Cond{Name: "c" + strconv.Itoa(i)})
	}
	for i := range futures {
		w.Futures = append(w.Futures, "f"+strconv.Itoa(i))
	}
	for i := range threads {
		w.Threads = append(w.Threads, "t"+strconv.Itoa(i))
	}
	for i := range sites {
		w.Sites = append(w.Sites, api.Site{Stmt: i})
	}
	return w
}

func TestLimitsOfWorlds(t *testing.T) {
	wantWorldValid(t, worldOf(0, 0, 0, 0, 1, 0), "least", true)
	wantWorldValid(t, worldOf(12, 4, 2, 2, 4, 60), "full", true)
	wantWorldValid(t, worldOf(13, 4, 2, 2, 4, 60), "cells", false)
	wantWorldValid(t, worldOf(12, 5, 2, 2, 4, 60), "locks", false)
	wantWorldValid(t, worldOf(12, 4, 3, 2, 4, 60), "conditions", false)
	wantWorldValid(t, worldOf(12, 4, 2, 3, 4, 60), "futures", false)
	wantWorldValid(t, worldOf(12, 4, 2, 2, 5, 60), "threads", false)
	wantWorldValid(t, worldOf(12, 4, 2, 2, 4, 61), "sites", false)
	wantWorldValid(t, worldOf(12, 4, 2, 2, 0, 0), "no threads", false)
	wantWorldValid(t, api.World{}, "zero", false)
}

// Every field of a world with one object of another value, against the second definition.
func TestEveryFieldOfWorlds(t *testing.T) {
	numbers := []int{math.MinInt, -1, 0, 1, 2, 3, 4, 5, 6, 60, 61, math.MaxInt}
	valid := map[bool]int{}
	try := func(w api.World, what string) {
		valid[ValidWorld(w)]++
		wantWorldValid(t, w, what, specValidWorld(w))
	}
	for _, n := range numbers {
		for i := range richWorld(t).Cells {
			for _, change := range []func(c *api.Cell){
				func(c *api.Cell) { c.Index = n },
				func(c *api.Cell) { c.Size = n },
				func(c *api.Cell) { c.Init = int64(n) },
				func(c *api.Cell) { c.Volatile = !c.Volatile },
			} {
				w := richWorld(t)
				change(&w.Cells[i])
				try(w, "cell "+strconv.Itoa(i))
			}
		}
		for i := range richWorld(t).Conds {
			w := richWorld(t)
			w.Conds[i].Mutex = n
			try(w, "condition "+strconv.Itoa(i))
		}
		for i := range richWorld(t).Sites {
			for _, change := range []func(s *api.Site){
				func(s *api.Site) { s.Thread = n },
				func(s *api.Site) { s.Stmt = n },
				func(s *api.Site) { s.Line = n },
			} {
				w := richWorld(t)
				change(&w.Sites[i])
				try(w, "site "+strconv.Itoa(i))
			}
		}
	}
	if valid[true] < 100 || valid[false] < 100 {
		t.Errorf("%d valid worlds, %d others", valid[true], valid[false])
	}
}
