package compile

import (
	"slices"

	"interleave/api"
	"interleave/check"
)

// World returns the static objects of a program.
func World(p api.Program) api.World {
	if err, _ := check.Program(p); err != api.OK {
		return api.World{}
	}
	return objects(p)
}

// objects returns the static objects of a program without errors.
func objects(p api.Program) api.World {
	var w api.World
	for _, d := range p.Decls {
		declare(&w, d)
	}
	for i, t := range p.Threads {
		w.Threads = append(w.Threads, t.Name)
		for n, s := range preorder(t.Body) {
			w.Sites = append(w.Sites, api.Site{Thread: i, Stmt: n, Line: s.Line})
		}
	}
	return w
}

func declare(w *api.World, d api.Decl) {
	switch d.Kind {
	case api.DVar, api.DVolatile:
		w.Cells = append(w.Cells, cellsOf(d)...)
	case api.DMutex, api.DRWLock:
		w.Locks = append(w.Locks, api.Lock{Name: d.Name, RW: d.Kind == api.DRWLock})
	case api.DCond:
		w.Conds = append(w.Conds, api.Cond{Name: d.Name, Mutex: lockOf(*w, d.On)})
	case api.DFuture:
		w.Futures = append(w.Futures, d.Name)
	}
}

func cellsOf(d api.Decl) []api.Cell {
	if d.Size == 0 {
		return []api.Cell{{Name: d.Name, Volatile: d.Kind == api.DVolatile, Init: d.Init}}
	}
	var cells []api.Cell
	for i := range d.Size {
		cells = append(cells, api.Cell{Name: d.Name, Index: i, Size: d.Size, Init: d.Init})
	}
	return cells
}

func lockOf(w api.World, name string) int {
	return slices.IndexFunc(w.Locks, func(l api.Lock) bool { return l.Name == name })
}

// preorder returns statements, each ahead of those inside it.
func preorder(body []api.Stmt) []api.Stmt {
	var all []api.Stmt
	for _, s := range body {
		all = append(all, s)
		all = append(all, preorder(s.Body)...)
		all = append(all, preorder(s.Else)...)
	}
	return all
}
