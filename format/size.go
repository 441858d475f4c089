package format

// limit is the greatest length of a text (DOC.md, "Limits of size").
const limit = 1<<31 - 1

// size is the size of a text at depth 0. It counts up to limit + 1, which stands for all greater numbers.
type size struct{ bytes, lines int }

// length returns how long the text is at a depth.
func (s size) length(depth int) int {
	return s.bytes + len(indentation)*min(depth, limit)*s.lines
}

// sizeOf returns the size of the text of a node.
func sizeOf(whole node) size {
	// Until the parts of a node are measured it counts as endless, and so does all that contains itself.
	endless := size{limit + 1, limit + 1}
	sizes := map[node]size{}
	done := map[node]bool{}
	stack := []node{whole}
	for len(stack) > 0 {
		n := stack[len(stack)-1]
		_, begun := sizes[n]
		switch {
		case done[n]:
			stack = stack[:len(stack)-1]
		case begun:
			sizes[n] = n.layout().size(sizes)
			done[n] = true
		default:
			sizes[n] = endless
			stack = append(stack, n.layout().unknown(sizes)...)
		}
	}
	return sizes[whole]
}

// unknown returns the inner nodes that have no size.
func (l layout) unknown(sizes map[node]size) []node {
	var nodes []node
	for _, p := range l {
		if _, known := sizes[p.inner]; p.isNode() && !known {
			nodes = append(nodes, p.inner)
		}
	}
	return nodes
}

// size adds up the parts of a text. All inner nodes have a size.
func (l layout) size(sizes map[node]size) size {
	var total size
	for _, p := range l {
		s := size{bytes: len(p.text)}
		if p.blanks {
			s.lines = 1
		}
		if p.isNode() {
			inner := sizes[p.inner]
			s = size{inner.length(1), inner.lines}
		}
		total.bytes = min(total.bytes+s.bytes, limit+1)
		total.lines = min(total.lines+s.lines, limit+1)
	}
	return total
}
