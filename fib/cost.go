package fib

// treeNode is a node of a table's tree, with its cost for one depth and the
// stride that has it.
type treeNode struct {
	bits   string
	height int
	stride int
	cost   int
}

// tableCost wants a depth of 1 or more.
func tableCost(lines []route, depth int) int {
	levels := treeLevels(lines, depth)
	nodes := levels[len(levels)-1]
	// The empty node, if there is one, stands ahead of all others.
	if len(nodes) == 0 {
		return 0
	}
	return nodes[0].cost
}

// treeLevels answers the nodes of a table as often as the depth says: with
// their costs and strides for depth 1, for depth 2, and on. It answers those
// for depth 1 always, so that there is a last level.
func treeLevels(lines []route, depth int) [][]treeNode {
	nodes := flatNodes(lines)
	levels := [][]treeNode{nodes}
	for k := 2; k <= depth; k++ {
		nodes = deepenNodes(nodes)
		levels = append(levels, nodes)
	}
	return levels
}

// flatNodes answers the nodes of a table with their costs for depth 1. They
// have the order of their bits, so that all those that begin with a node's
// bits stand right behind it: that is why the routes are put in order first.
func flatNodes(lines []route) []treeNode {
	routes := orderRoutes(lines)
	var nodes []treeNode
	for i := 0; i < len(routes); i++ {
		bits := routes[i].bits
		for n := 0; n < len(bits); n++ {
			if findNode(nodes, bits[:n]) < 0 {
				added := flatNode(routes, bits[:n])
				nodes = append(nodes, added)
			}
		}
	}
	return nodes
}

// findNode answers the place of the node with these bits; -1, if there is
// none.
func findNode(nodes []treeNode, bits string) int {
	for i := 0; i < len(nodes); i++ {
		if nodes[i].bits == bits {
			return i
		}
	}
	return -1
}

// flatNode has no choice of a stride: each one below the height would leave a
// node of the longest route, and there is no depth for that.
func flatNode(routes []route, bits string) treeNode {
	height := 0
	for i := 0; i < len(routes); i++ {
		more := len(routes[i].bits) - len(bits)
		if more > height && beginsWith(routes[i].bits, bits) {
			height = more
		}
	}
	return treeNode{bits: bits, height: height, stride: height, cost: 1 << uint(height)}
}

// deepenNodes answers the same nodes with their costs for a depth of one more.
func deepenNodes(nodes []treeNode) []treeNode {
	var deeper []treeNode
	for i := 0; i < len(nodes); i++ {
		node := deepenNode(nodes, i)
		deeper = append(deeper, node)
	}
	return deeper
}

// deepenNode answers the node at this place for a depth of one more than the
// nodes have. Of strides that cost the same it takes the first, so that a table
// has one image.
func deepenNode(nodes []treeNode, at int) treeNode {
	deeper := nodes[at]
	for stride := 1; stride <= nodes[at].height; stride++ {
		below := costBelow(nodes, at, stride)
		cost := 1<<uint(stride) + below
		if stride == 1 || cost < deeper.cost {
			deeper.stride = stride
			deeper.cost = cost
		}
	}
	return deeper
}

// costBelow answers the costs of all nodes that a stride from this one leaves.
func costBelow(nodes []treeNode, at int, stride int) int {
	sum := 0
	bits := nodes[at].bits
	for i := at + 1; i < len(nodes) && beginsWith(nodes[i].bits, bits); i++ {
		if len(nodes[i].bits) == len(bits)+stride {
			sum += nodes[i].cost
		}
	}
	return sum
}
