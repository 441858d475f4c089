package format

import "strings"

// A value can be of any depth, can use one slice at so many places that no memory holds its text, and can contain itself. So nothing in this file is recursive, and the size of a text is known before the text is written.

const indentation = "  "

// write returns the text of a node at a depth, or nothing if it is longer than limit.
func write(whole node, depth int) string {
	length := sizeOf(whole).length(depth)
	if length > limit {
		return ""
	}
	var b strings.Builder
	b.Grow(length)
	// What remains to be written of the whole, of the node in it, and so on; each is one depth further inside.
	rests := []layout{whole.layout()}
	for len(rests) > 0 {
		last := len(rests) - 1
		if len(rests[last]) == 0 {
			rests = rests[:last]
			continue
		}
		p := rests[last][0]
		rests[last] = rests[last][1:]
		b.WriteString(p.text)
		if p.blanks {
			b.WriteString(strings.Repeat(indentation, depth+last))
		}
		if p.isNode() {
			rests = append(rests, p.inner.layout())
		}
	}
	return b.String()
}
