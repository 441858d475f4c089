package compile

import (
	"math"
	"testing"

	"interleave/api"
)

// P6.6

func wantText(t *testing.T, i api.Instr, want string) {
	t.Helper()
	if got := Text(i); got != want {
		t.Errorf("Text(%+v) = %q; want %q", i, got, want)
	}
}

func TestWordsOfInstructions(t *testing.T) {
	for op, word := range map[int]string{
		api.IConst: "const", api.IMove: "move", api.IUnary: "unary", api.IBinary: "binary", api.IJump: "jump", api.ILoad: "load", api.ILoadAt: "loadat", api.IStore: "store", api.IStoreAt: "storeat", api.IBranch: "branch",
		api.IAcquire: "acquire", api.IRelease: "release", api.IReadAcquire: "readacquire", api.IReadRelease: "readrelease", api.IWriteAcq: "writeacquire", api.IWriteRel: "writerelease",
		api.ITxBegin: "txbegin", api.ITxEnd: "txend", api.IAtomicBegin: "atomicbegin", api.IAtomicEnd: "atomicend", api.IWait: "wait", api.INotify: "notify", api.INotifyAll: "notifyall",
		api.ISpawn: "spawn", api.IJoin: "join", api.ISet: "set", api.IGet: "get", api.IEnd: "end",
	} {
		wantText(t, api.Instr{Op: op}, word+" 0 0 0 0")
		wantText(t, api.Instr{Op: op, A: 1, B: 22, C: 333, N: 4444, Site: 55555}, word+" 1 22 333 4444")
	}
	for _, op := range []int{0, -1, -28, 29, 30, 100, math.MinInt, math.MaxInt, 1 << 32, 1<<32 + 1, -1 << 32} {
		wantText(t, api.Instr{Op: op}, "none 0 0 0 0")
		wantText(t, api.Instr{Op: op, A: 1, B: 2, C: 3, N: 4, Site: 5}, "none 1 2 3 4")
	}
}

func TestNumbersOfInstructions(t *testing.T) {
	const least, greatest = "-9223372036854775808", "9223372036854775807"
	wantText(t, api.Instr{Op: api.IMove, A: -1, B: -2, C: -3, N: -4}, "move -1 -2 -3 -4")
	wantText(t, api.Instr{Op: api.IMove, A: 10, B: 100, C: 1000, N: 10000}, "move 10 100 1000 10000")
	wantText(t, api.Instr{Op: api.IBinary, A: math.MinInt, B: math.MinInt, C: math.MinInt, N: math.MinInt64}, "binary "+least+" "+least+" "+least+" "+least)
	wantText(t, api.Instr{Op: api.IBinary, A: math.MaxInt, B: math.MaxInt, C: math.MaxInt, N: math.MaxInt64}, "binary "+greatest+" "+greatest+" "+greatest+" "+greatest)
	wantText(t, api.Instr{Op: 29, A: -1, N: 3}, "none -1 0 0 3")
	wantText(t, api.Instr{Op: api.ILoad, A: 1}, "load 1 0 0 0")
	wantText(t, api.Instr{Op: api.ILoad, B: 1}, "load 0 1 0 0")
	wantText(t, api.Instr{Op: api.ILoad, C: 1}, "load 0 0 1 0")
	wantText(t, api.Instr{Op: api.ILoad, N: 1}, "load 0 0 0 1")
	wantText(t, api.Instr{Op: api.ILoad, Site: -1}, "load 0 0 0 0")
}
