package fib

// target is what an entry leads to: a hop (0 if there is no route); or a node,
// as its bytes and those of all that lies below it. Entries tell of places
// behind themselves, so that these bytes are the same wherever they lie.
type target struct {
	hop   int
	node  string
	depth int // how many nodes a lookup goes through at most
}

// compileTable wants a depth of 1 or more. No table costs more slots than there
// are addresses, so that u16 has room for the length and for all distances.
func compileTable(lines []route, width int, depth int) string {
	levels := treeLevels(lines, depth)
	first := targetOf(lines, levels, "")
	rest := layTargets([]target{first})
	length := firstEntryAt + len(rest) + sumLength
	body := imageSign + byteText(width) + byteText(first.depth) + numberText(length) + rest
	sum := sumOf(body)
	return body + numberText(sum)
}

// targetOf answers what these bits lead to, with as many nodes left as there
// are levels. Where none is left, the strides have left no node.
func targetOf(lines []route, levels [][]treeNode, bits string) target {
	if len(levels) > 0 {
		nodes := levels[len(levels)-1]
		at := findNode(nodes, bits)
		if at >= 0 {
			return nodeTarget(lines, levels[:len(levels)-1], nodes[at])
		}
	}
	// All routes that begin with these bits end here: those that fit the bits
	// fit every address that begins with them.
	return target{hop: hopOf(lines, bits)}
}

// nodeTarget writes a node, with the levels that are left below it. Slots side
// by side that lead to the same are one run, also if that is a node.
func nodeTarget(lines []route, below [][]treeNode, node treeNode) target {
	slots := 1 << uint(node.stride)
	runs := make([]byte, (slots+7)/8)
	var targets []target
	deepest := 0
	for slot := 0; slot < slots; slot++ {
		bits := node.bits + addressBits(slot, node.stride)
		next := targetOf(lines, below, bits)
		if len(targets) > 0 && targets[len(targets)-1] == next {
			continue
		}
		runs[slot/8] |= 1 << uint(slot%8)
		targets = append(targets, next)
		if next.depth > deepest {
			deepest = next.depth
		}
	}
	laid := layTargets(targets)
	return target{node: byteText(node.stride) + string(runs) + laid, depth: deepest + 1}
}

// layTargets writes one entry for each target, and behind the last entry the
// nodes that they tell of.
func layTargets(targets []target) string {
	entries := ""
	nodes := ""
	for i := 0; i < len(targets); i++ {
		entry := targets[i].hop
		if targets[i].node != "" {
			entry = nodeMark + (len(targets)-i)*entryLength + len(nodes)
		}
		entries += numberText(entry)
		nodes += targets[i].node
	}
	return entries + nodes
}

// numberText answers a number as u16.
func numberText(number int) string {
	return byteText(number/256) + byteText(number%256)
}

func byteText(number int) string {
	return string([]byte{byte(number)})
}
