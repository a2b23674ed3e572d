package fib

// treeNode is a node of a table's tree, with its cost for one depth.
type treeNode struct {
	bits   string
	height int
	cost   int
}

// tableCost wants a depth of 1 or more.
func tableCost(lines []route, depth int) int {
	nodes := flatNodes(lines)
	for k := 2; k <= depth; k++ {
		nodes = deepenNodes(nodes)
	}
	// The empty node, if there is one, stands ahead of all others.
	if len(nodes) == 0 {
		return 0
	}
	return nodes[0].cost
}

// flatNodes answers the nodes of a table with their costs for depth 1. They
// have the order of their bits, so that all those that begin with a node's
// bits stand right behind it: that is why the routes are put in order first.
func flatNodes(lines []route) []treeNode {
	routes := orderRoutes(lines)
	var nodes []treeNode
	for i := 0; i < len(routes); i++ {
		bits := routes[i].bits
		for n := 0; n < len(bits); n++ {
			if !hasNode(nodes, bits[:n]) {
				added := flatNode(routes, bits[:n])
				nodes = append(nodes, added)
			}
		}
	}
	return nodes
}

func hasNode(nodes []treeNode, bits string) bool {
	for i := 0; i < len(nodes); i++ {
		if nodes[i].bits == bits {
			return true
		}
	}
	return false
}

// flatNode has no choice of a stride: each one below the height would leave a
// node of the longest route, and there is no depth for that.
func flatNode(routes []route, bits string) treeNode {
	height := 0
	for i := 0; i < len(routes); i++ {
		more := len(routes[i].bits) - len(bits)
		if more > height && beginsWith(routes[i].bits, bits) {
			height = more
		}
	}
	return treeNode{bits: bits, height: height, cost: 1 << uint(height)}
}

// deepenNodes answers the same nodes with their costs for a depth of one more.
func deepenNodes(nodes []treeNode) []treeNode {
	var deeper []treeNode
	for i := 0; i < len(nodes); i++ {
		cost := deeperCost(nodes, i)
		deeper = append(deeper, treeNode{bits: nodes[i].bits, height: nodes[i].height, cost: cost})
	}
	return deeper
}

// deeperCost answers the cost of the node at this place for a depth of one
// more than the nodes have.
func deeperCost(nodes []treeNode, at int) int {
	least := 0
	for stride := 1; stride <= nodes[at].height; stride++ {
		below := costBelow(nodes, at, stride)
		cost := 1<<uint(stride) + below
		if stride == 1 || cost < least {
			least = cost
		}
	}
	return least
}

// costBelow answers the costs of all nodes that a stride from this one leaves.
func costBelow(nodes []treeNode, at int, stride int) int {
	sum := 0
	bits := nodes[at].bits
	for i := at + 1; i < len(nodes) && beginsWith(nodes[i].bits, bits); i++ {
		if len(nodes[i].bits) == len(bits)+stride {
			sum += nodes[i].cost
		}
	}
	return sum
}
