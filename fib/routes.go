package fib

import "strconv"

// orderRoutes answers each route once, in the order of their bits; of lines
// with the same bits the last one.
func orderRoutes(lines []route) []route {
	var ordered []route
	for i := 0; i < len(lines); i++ {
		ordered = layRoute(ordered, lines[i])
	}
	return ordered
}

// layRoute answers ordered routes with one more at its place, where it
// displaces a route with the same bits.
func layRoute(ordered []route, added route) []route {
	var laid []route
	at := 0
	for at < len(ordered) && ordered[at].bits < added.bits {
		laid = append(laid, ordered[at])
		at++
	}
	laid = append(laid, added)
	if at < len(ordered) && ordered[at].bits == added.bits {
		at++
	}
	for at < len(ordered) {
		laid = append(laid, ordered[at])
		at++
	}
	return laid
}

func printRoutes(routes []route) string {
	text := ""
	for i := 0; i < len(routes); i++ {
		text += printRoute(routes[i])
	}
	return text
}

func printRoute(r route) string {
	bits := r.bits
	if bits == "" {
		bits = "*"
	}
	return bits + " " + strconv.Itoa(r.hop) + "\n"
}

// isAddress wants a width that has been tested.
func isAddress(addr int, width int) bool {
	return addr >= 0 && addr < 1<<uint(width)
}

// addressBits answers the bits of an address as a text, the highest one first.
func addressBits(addr int, width int) string {
	bits := ""
	rest := addr
	for i := 0; i < width; i++ {
		if rest%2 == 1 {
			bits = "1" + bits
		} else {
			bits = "0" + bits
		}
		rest = rest / 2
	}
	return bits
}

// hopOf answers the hop of an address that is given as its bits.
func hopOf(lines []route, address string) int {
	most := 0
	hop := 0
	for i := 0; i < len(lines); i++ {
		line := lines[i]
		// As many bits that fit are the same bits: the later line counts.
		if len(line.bits) >= most && beginsWith(address, line.bits) {
			most = len(line.bits)
			hop = line.hop
		}
	}
	return hop
}

func beginsWith(text string, beginning string) bool {
	return len(beginning) <= len(text) && text[:len(beginning)] == beginning
}
