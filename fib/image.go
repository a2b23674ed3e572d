package fib

// Places in an image, and what it is made of.
const (
	imageSign     = "FI"
	widthAt       = 2
	depthAt       = 3
	lengthAt      = 4
	firstEntryAt  = 6
	entryLength   = 2
	sumLength     = 2
	shortestImage = firstEntryAt + entryLength + sumLength
	nodeMark      = 1000 // what an entry of a node has above its distance
	sumModulus    = 65521
)

// imageNode is a node as it lies in an image. A stride of 0 says that there is
// none.
type imageNode struct {
	stride    int
	runs      string // the bytes of its slots' bits
	entriesAt int
	entries   int
}

// isImage tells whether the whole of these bytes is a good image. The length
// is looked at first: bytes that are too many are not gone through.
func isImage(image string) bool {
	if len(image) < shortestImage || numberAt(image, lengthAt) != len(image) {
		return false
	}
	width := byteAt(image, widthAt)
	depth := byteAt(image, depthAt)
	if !beginsWith(image, imageSign) || width < 1 || width > maxWidth || depth > width {
		return false
	}
	body := image[:len(image)-sumLength]
	sum := sumOf(body)
	if sum != numberAt(image, len(body)) {
		return false
	}
	return isGoodEntry(body, firstEntryAt, width, depth)
}

func sumOf(body string) int {
	sum := 0
	for i := 0; i < len(body); i++ {
		sum = (sum + (i+1)*(int(body[i])+1)) % sumModulus
	}
	return sum
}

// isGoodEntry looks at an entry and at all that it leads to. Nodes that many
// entries share are looked at as often: the strides on one way are not more
// than the width in sum, so that there are not more ways than addresses.
func isGoodEntry(body string, at int, bitsLeft int, nodesLeft int) bool {
	entry := numberAt(body, at)
	if entry <= maxHop {
		return true
	}
	if entry < nodeMark+entryLength || nodesLeft < 1 {
		return false
	}
	node := readNode(body, at+entry-nodeMark, bitsLeft)
	if node.stride == 0 {
		return false
	}
	for i := 0; i < node.entries; i++ {
		good := isGoodEntry(body, node.entriesAt+i*entryLength, bitsLeft-node.stride, nodesLeft-1)
		if !good {
			return false
		}
	}
	return true
}

// readNode answers no node, too, if its stride is more than the bits left, if
// it does not end within the body, or if its bits are not as they must be.
func readNode(body string, at int, bitsLeft int) imageNode {
	stride := byteAt(body, at)
	if stride < 1 || stride > bitsLeft {
		return imageNode{}
	}
	slots := 1 << uint(stride)
	runsAt := at + 1
	entriesAt := runsAt + (slots+7)/8
	if entriesAt > len(body) {
		return imageNode{}
	}
	runs := body[runsAt:entriesAt]
	entries := countRuns(runs, slots)
	if entriesAt+entries*entryLength > len(body) {
		return imageNode{}
	}
	firstRuns := countRuns(runs, 1)
	allRuns := countRuns(runs, 8*len(runs))
	if firstRuns != 1 || allRuns != entries {
		return imageNode{}
	}
	return imageNode{stride: stride, runs: runs, entriesAt: entriesAt, entries: entries}
}

// countRuns answers how many runs begin within the first slots.
func countRuns(runs string, slots int) int {
	count := 0
	for slot := 0; slot < slots; slot++ {
		bits := byteAt(runs, slot/8)
		count += (bits >> uint(slot%8)) & 1
	}
	return count
}

// numberAt answers the u16 at a place.
func numberAt(bytes string, at int) int {
	high := byteAt(bytes, at)
	low := byteAt(bytes, at+1)
	return 256*high + low
}

// byteAt answers 0 outside the bytes.
func byteAt(bytes string, at int) int {
	if at < 0 || at >= len(bytes) {
		return 0
	}
	return int(bytes[at])
}
