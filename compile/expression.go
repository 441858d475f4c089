package compile

import "interleave/api"

// value appends the instructions that compute an expression into register d.
func (b *builder) value(e api.Expr, d int) {
	switch e.Op {
	case api.ENum:
		b.add(api.Instr{Op: api.IConst, A: d, N: e.N})
	case api.EName:
		b.load(e.Name, d)
	case api.EIndex:
		b.value(e.L[0], d)
		first := b.cell(e.Name)
		b.add(api.Instr{Op: api.ILoadAt, A: d, B: first, C: d, N: int64(b.world.Cells[first].Size)})
	case api.ENeg, api.ENot:
		b.value(e.L[0], d)
		b.add(api.Instr{Op: api.IUnary, A: d, B: d, N: int64(e.Op)})
	default:
		b.value(e.L[0], d)
		b.value(e.L[1], d+1)
		b.add(api.Instr{Op: api.IBinary, A: d, B: d, C: d + 1, N: int64(e.Op)})
	}
}

func (b *builder) load(name string, d int) {
	if local := b.local(name); local >= 0 {
		b.add(api.Instr{Op: api.IMove, A: d, B: local})
		return
	}
	b.add(api.Instr{Op: api.ILoad, A: d, B: b.cell(name)})
}
