package fib

const (
	maxText   = 400
	maxRoutes = 24
	maxWidth  = 12
	maxHop    = 250
)

// route is one line of a table. Its bits are digits alone: those of `*` are
// the empty text, so that the order and the beginnings of texts are those of
// bits.
type route struct {
	bits string
	hop  int
}

// readTable answers the routes of all lines, in the order of the text; beside
// ErrSyntax stands the place of the fault.
func readTable(text string, width int) ([]route, Errno, int) {
	if len(text) > maxText {
		return nil, ErrLong, 0
	}
	if width < 1 || width > maxWidth {
		return nil, ErrArg, 0
	}
	var lines []route
	at := 0
	for at < len(text) {
		line, next, ok := readLine(text, width, at)
		if !ok {
			return nil, ErrSyntax, next
		}
		lines = append(lines, line)
		at = next
	}
	// Only here, for a fault behind the last line allowed is named first.
	if len(lines) > maxRoutes {
		return nil, ErrMany, 0
	}
	return lines, OK, 0
}

// readForDepth is readTable for the calls that have a depth: a depth that is
// none is named ahead of a fault of the text, but behind its length.
func readForDepth(text string, width int, depth int) ([]route, Errno) {
	if len(text) <= maxText && (depth < 1 || depth > width) {
		return nil, ErrArg
	}
	lines, errno, _ := readTable(text, width)
	return lines, errno
}

// readLine reads the line that begins at start: its route, the place behind
// its line end, and true; or no route, the place of its fault, and false.
func readLine(text string, width int, start int) (route, int, bool) {
	bits, blank := readBits(text, width, start)
	if blank == start || !hasByte(text, blank, ' ') {
		return route{}, blank, false
	}
	hop, lineEnd := readHop(text, blank+1)
	if hop == 0 || !hasByte(text, lineEnd, '\n') {
		return route{}, lineEnd, false
	}
	return route{bits: bits, hop: hop}, lineEnd + 1, true
}

// readBits answers the bits at start and the place behind them: start itself,
// if there are none.
func readBits(text string, width int, start int) (string, int) {
	if hasByte(text, start, '*') {
		return "", start + 1
	}
	bits := ""
	for len(bits) < width {
		at := start + len(bits)
		if hasByte(text, at, '0') {
			bits += "0"
		} else if hasByte(text, at, '1') {
			bits += "1"
		} else {
			return bits, at
		}
	}
	return bits, start + len(bits)
}

// readHop answers the hop at start, 0 if there is none, and the place behind
// it. It stops ahead of a digit that would make the number too great: that
// digit is the fault, and not what follows it.
func readHop(text string, start int) (int, int) {
	hop := 0
	at := start
	for at < len(text) {
		digit := int(text[at]) - '0'
		if digit < 0 || digit > 9 {
			return hop, at
		}
		longer := 10*hop + digit
		if longer < 1 || longer > maxHop {
			return hop, at
		}
		hop = longer
		at++
	}
	return hop, at
}

// hasByte is false outside the text too.
func hasByte(text string, at int, want byte) bool {
	return at >= 0 && at < len(text) && text[at] == want
}
