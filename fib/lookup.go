package fib

// imageAt answers the bytes of the image that would begin at from, a place
// that has been tested; none, if they are not all there.
func imageAt(bytes string, from int) string {
	length := numberAt(bytes, from+lengthAt)
	if length > len(bytes)-from {
		return ""
	}
	return bytes[from : from+length]
}

// walkImage answers the hop with which the lookup of an address ends, and how
// many nodes it goes through. The image must be good: then no way has more
// nodes than its depth.
func walkImage(image string, addr int) (int, int) {
	depth := byteAt(image, depthAt)
	bitsLeft := byteAt(image, widthAt)
	addrLeft := addr
	at := firstEntryAt
	for nodes := 0; nodes < depth; nodes++ {
		entry := numberAt(image, at)
		if entry <= maxHop {
			return entry, nodes
		}
		node := readNode(image, at+entry-nodeMark, bitsLeft)
		bitsLeft -= node.stride
		slot := addrLeft >> uint(bitsLeft)
		addrLeft -= slot << uint(bitsLeft)
		run := countRuns(node.runs, slot+1)
		at = node.entriesAt + (run-1)*entryLength
	}
	return numberAt(image, at), depth
}
