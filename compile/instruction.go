package compile

import (
	"strconv"
	"strings"

	"interleave/api"
)

// A layout is the word for an instruction, and the fields of it that name registers.
type layout struct {
	word, registers string
}

// The layouts stand in the order of the instructions.
var layouts = [...]layout{
	{"none", ""},
	{"const", "A"}, {"move", "AB"}, {"unary", "AB"}, {"binary", "ABC"}, {"jump", ""},
	{"load", "A"}, {"loadat", "AC"}, {"store", "B"}, {"storeat", "BC"}, {"branch", "A"},
	{"acquire", ""}, {"release", ""}, {"readacquire", ""}, {"readrelease", ""}, {"writeacquire", ""}, {"writerelease", ""},
	{"txbegin", ""}, {"txend", ""}, {"atomicbegin", ""}, {"atomicend", ""},
	{"wait", ""}, {"notify", ""}, {"notifyall", ""}, {"spawn", ""}, {"join", ""},
	{"set", "B"}, {"get", "A"}, {"end", ""},
}

func isInstruction(op int) bool {
	return op >= api.IConst && op <= api.IEnd
}

// Text returns the text of an instruction.
func Text(i api.Instr) string {
	word := layouts[0].word
	if isInstruction(i.Op) {
		word = layouts[i.Op].word
	}
	return strings.Join([]string{word, strconv.Itoa(i.A), strconv.Itoa(i.B), strconv.Itoa(i.C), strconv.FormatInt(i.N, 10)}, " ")
}

// registersOf returns the registers that one of the instructions names.
func registersOf(i api.Instr) []int {
	var named []int
	for _, field := range layouts[i.Op].registers {
		switch field {
		case 'A':
			named = append(named, i.A)
		case 'B':
			named = append(named, i.B)
		case 'C':
			named = append(named, i.C)
		}
	}
	return named
}

// isSilent reports whether an instruction executes no event.
func isSilent(op int) bool {
	return op >= api.IConst && op <= api.IJump
}
