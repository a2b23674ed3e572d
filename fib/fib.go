// Package fib: route tables as images for lookups: see DOC.md.
package fib

// Errno is what a call answers: OK or the reason for a refusal.
type Errno int

const (
	OK        Errno = 0
	ErrLong   Errno = 1 // a table above its bound
	ErrArg    Errno = 2 // a number that is none
	ErrSyntax Errno = 3 // no table
	ErrMany   Errno = 4 // too many routes
	ErrSize   Errno = 5 // the image would be too long
	ErrImage  Errno = 6 // no image
)

// Check tells whether a text is a table (P3).
func Check(text string, width int) (Errno, int) {
	_, errno, place := readTable(text, width)
	return errno, place
}

// Print writes a table with each route once, in order (P4).
func Print(text string, width int) (string, Errno) {
	lines, errno, _ := readTable(text, width)
	if errno != OK {
		return "", errno
	}
	routes := orderRoutes(lines)
	return printRoutes(routes), OK
}

// Find tells the hop of an address (P5).
func Find(text string, width int, addr int) (int, Errno) {
	lines, errno, _ := readTable(text, width)
	if errno != OK {
		return 0, errno
	}
	if !isAddress(addr, width) {
		return 0, ErrArg
	}
	address := addressBits(addr, width)
	return hopOf(lines, address), OK
}

// Cost tells how many slots a table wants (P6).
func Cost(text string, width int, depth int) (int, Errno) {
	lines, errno := readForDepth(text, width, depth)
	if errno != OK {
		return 0, errno
	}
	return tableCost(lines, depth), OK
}

// Compile makes a table's image (P7).
func Compile(text string, width int, depth int, limit int) (string, Errno) {
	lines, errno := readForDepth(text, width, depth)
	if errno != OK {
		return "", errno
	}
	image := compileTable(lines, width, depth)
	if len(image) > limit {
		return "", ErrSize
	}
	return image, OK
}

// Load tells whether bytes are a good image (P8).
func Load(image string) Errno {
	if !isImage(image) {
		return ErrImage
	}
	return OK
}

// Lookup walks an image (P9).
func Lookup(bytes string, from int, addr int) (int, int, Errno) {
	if from < 0 || from > len(bytes) {
		return 0, 0, ErrArg
	}
	image := imageAt(bytes, from)
	if !isImage(image) {
		return 0, 0, ErrImage
	}
	width := byteAt(image, widthAt)
	if !isAddress(addr, width) {
		return 0, 0, ErrArg
	}
	hop, nodes := walkImage(image, addr)
	return hop, nodes, OK
}
