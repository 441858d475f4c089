package compile

import (
	"slices"

	"interleave/api"
	"interleave/token"
)

// ValidWorld reports whether w could be the objects of a program.
func ValidWorld(w api.World) bool {
	// The limits come first, so that the other rules examine short lists.
	return withinLimits(w) && validCells(w.Cells) && validNames(w) && validConds(w) && validSites(w)
}

func withinLimits(w api.World) bool {
	return len(w.Cells) <= api.MaxCells && len(w.Locks) <= api.MaxLocks && len(w.Conds) <= api.MaxConds && len(w.Futures) <= api.MaxFutures &&
		len(w.Threads) >= 1 && len(w.Threads) <= api.MaxThreads && len(w.Sites) <= api.MaxStmts
}

func validCells(cells []api.Cell) bool {
	for len(cells) > 0 {
		n := max(cells[0].Size, 1)
		if n > len(cells) || !isVariable(cells[:n]) {
			return false
		}
		cells = cells[n:]
	}
	return true
}

// isVariable reports whether cells, which are as many as the first one says, are those of one variable.
func isVariable(cells []api.Cell) bool {
	want := cells[0]
	if want.Size == 0 {
		return want.Index == 0
	}
	if want.Size < 0 || want.Size > api.MaxSize || want.Volatile {
		return false
	}
	for i, c := range cells {
		want.Index = i
		if c != want {
			return false
		}
	}
	return true
}

func validNames(w api.World) bool {
	names := namesOf(w)
	for _, name := range names {
		if !token.IsName(name) {
			return false
		}
	}
	slices.Sort(names)
	count := len(names)
	return len(slices.Compact(names)) == count
}

// namesOf returns the names of a world, one for all cells of an array.
func namesOf(w api.World) []string {
	var names []string
	for _, c := range w.Cells {
		if c.Index == 0 {
			names = append(names, c.Name)
		}
	}
	for _, l := range w.Locks {
		names = append(names, l.Name)
	}
	for _, c := range w.Conds {
		names = append(names, c.Name)
	}
	return slices.Concat(names, w.Futures, w.Threads)
}

func validConds(w api.World) bool {
	for _, c := range w.Conds {
		if !isLock(w, c.Mutex, false) {
			return false
		}
	}
	return true
}

// isLock reports whether a number is that of a reader-writer lock (rw), or of a mutex.
func isLock(w api.World, number int, rw bool) bool {
	return isIndex(number, len(w.Locks)) && w.Locks[number].RW == rw
}

// isIndex reports whether i is an index of a list of n elements.
func isIndex(i, n int) bool {
	return i >= 0 && i < n
}

func validSites(w api.World) bool {
	thread, count := 0, 0
	for _, s := range w.Sites {
		if s.Thread > thread {
			thread, count = s.Thread, 0
		}
		if s.Thread != thread || s.Stmt != count || !isIndex(s.Thread, len(w.Threads)) {
			return false
		}
		count++
	}
	return true
}
