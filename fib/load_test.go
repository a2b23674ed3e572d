package fib_test

import (
	"strings"
	"testing"

	"fibimage/fib"
)

func wantLoadIs(t *testing.T, image string, e fib.Errno) {
	t.Helper()
	if got := fib.Load(image); got != e {
		t.Errorf("P8: Load(%.60x), %d bytes = %d, want %d", image, len(image), got, e)
	}
}

// wantGood and wantBad: the oracle, too, must be of this mind.
func wantGood(t *testing.T, what string, image string) {
	t.Helper()
	wantLoadIs(t, image, fib.OK)
	if !wantImageIs(t, image) {
		t.Errorf("P8: %s: the oracle does not find the image good: %.60x", what, image)
	}
}

func wantBad(t *testing.T, what string, image string) {
	t.Helper()
	wantLoadIs(t, image, fib.ErrImage)
	if wantImageIs(t, image) {
		t.Errorf("P8: %s: the oracle finds the image good: %.60x", what, image)
	}
}

// one is a node of stride 1 with the hops 7 and 9.
const one = "\x01\x03\x00\x07\x00\x09"

// exampleImages are those of the document, with their tables.
var exampleImages = []struct{ digits, text string }{
	{"4649 04 00 000a 0007 017c", "* 7\n"},
	{"4649 04 01 0010 03ea 01 03 0001 0002 0965", "0 1\n1 2\n"},
	{"4649 06 04 0022 03ea 01 03 0063 03ea 01 03 03ec 0009 01 03 0001 03ea 01 03 000a 0001 48f0",
		"* 99\n1 9\n10 1\n1010 10\n"},
}

func TestLoadExamples(t *testing.T) {
	for _, example := range exampleImages {
		wantGood(t, "an example", fromHex(t, example.digits))
	}
}

func TestLoadShortBytes(t *testing.T) {
	for _, bytes := range []string{"", "F", "FI", "FI\x04\x00", "FIFIFIFIFI", strings.Repeat("\x00", 10), strings.Repeat("\xff", 10)} {
		wantBad(t, "no image", bytes)
	}
	for length := 0; length < 10; length++ {
		body := ("FI\x04\x00\x00" + string(rune(length)) + "\x00\x07")
		wantBad(t, "too short", sealed(body[:max(0, length-2)]))
		wantBad(t, "shorter than told", body[:min(length, 8)])
	}
	wantGood(t, "as short as can be", image(4, 0, 0, ""))
}

func TestLoadHeads(t *testing.T) {
	for width := 0; width < 256; width++ {
		for depth := 0; depth < 256; depth++ {
			e := fib.ErrImage
			if width >= 1 && width <= 12 && depth <= width {
				e = fib.OK
			}
			wantLoadIs(t, image(width, depth, 7, ""), e)
		}
	}
	good := image(4, 1, nodeMark+2, one)
	for at := range 2 {
		for b := range 256 {
			changed := resealed(good[:at] + string([]byte{byte(b)}) + good[at+1:])
			if changed != good {
				wantBad(t, "another sign", changed)
			}
		}
	}
}

func TestLoadLengths(t *testing.T) {
	good := image(4, 1, nodeMark+2, one)
	wantGood(t, "one node", good)
	for told := 0; told < 65536; told++ {
		if told != len(good) {
			wantLoadIs(t, resealed(good[:4]+u16(told)+good[6:]), fib.ErrImage)
		}
	}
	wantLoadIs(t, good+"\x00", fib.ErrImage)
	wantLoadIs(t, good+good, fib.ErrImage)
	for n := range len(good) {
		wantBad(t, "cut", good[:n])
		wantBad(t, "its end", good[n+1:])
	}
}

func TestLoadLongImages(t *testing.T) {
	longest := image(4, 0, 7, strings.Repeat("\xff", 65535-10))
	wantGood(t, "as long as can be", longest)
	over := image(4, 0, 7, strings.Repeat("\xff", 65536-10))
	wantBad(t, "longer than can be told", over)
	wantBad(t, "its length less 65536", resealed(image(4, 0, 7, "")[:8]+strings.Repeat("\x00", 65536)+"xx"))
	// As far as an entry can tell, and from there to the last place.
	far := strings.Repeat("\x00", 64535-2) + "\x01\x03\x00\x07" + u16(nodeMark+986-4)
	end := strings.Repeat("\x00", 986-6)
	wantGood(t, "nodes far away", image(4, 2, 65535, far+end+one))
	wantBad(t, "nodes far away, one byte cut", image(4, 2, 65535, far+end+one[:5]))
}

func TestLoadSums(t *testing.T) {
	for _, good := range []string{image(4, 0, 7, ""), image(4, 1, nodeMark+2, one)} {
		body := good[:len(good)-2]
		for sum := 0; sum < 65536; sum++ {
			e := fib.ErrImage
			if sum == wantSum(body) {
				e = fib.OK
			}
			wantLoadIs(t, body+u16(sum), e)
		}
	}
	edges := 0
	for n := range 65536 {
		// Far behind, so that these two bytes move the sum through all numbers.
		good := image(4, 0, 7, strings.Repeat("x", 250)+u16(n))
		sum := wantSum(good[:len(good)-2])
		if sum < 15 || sum > 65515 {
			wantGood(t, "a sum near the modulus", good)
			edges++
		}
		if sum < 15 {
			wantBad(t, "a sum that is not reduced", good[:len(good)-2]+u16(sum+65521))
		}
	}
	if edges < 10 {
		t.Errorf("only %d sums near the modulus", edges)
	}
}

// A sum that fits still says that no single byte was changed.
func TestLoadChangedBytes(t *testing.T) {
	for _, example := range exampleImages {
		good := fromHex(t, example.digits)
		for at := range len(good) {
			for b := range 256 {
				changed := good[:at] + string([]byte{byte(b)}) + good[at+1:]
				if changed != good {
					wantBad(t, "a byte changed", changed)
				}
			}
		}
	}
}

// As above, but the sum is made to fit.
func TestLoadChangedAndSealed(t *testing.T) {
	good, bad := 0, 0
	for _, example := range exampleImages {
		bytes := fromHex(t, example.digits)
		for at := range len(bytes) - 2 {
			for b := range 256 {
				if wantImageIs(t, resealed(bytes[:at]+string([]byte{byte(b)})+bytes[at+1:])) {
					good++
				} else {
					bad++
				}
			}
		}
	}
	if good < 1000 || bad < 1000 {
		t.Errorf("%d good images and %d bad ones are too few", good, bad)
	}
}

func TestLoadFirstEntries(t *testing.T) {
	rest := strings.Repeat(one, 4)
	for first := range 65536 {
		bytes := image(4, 4, first, rest)
		switch {
		case first <= 250:
			wantLoadIs(t, bytes, fib.OK)
		case first < nodeMark+2 || first > nodeMark+2+len(rest):
			wantLoadIs(t, bytes, fib.ErrImage)
		default:
			wantImageIs(t, bytes)
		}
		wantLoadIs(t, image(4, 0, first, rest), map[bool]fib.Errno{true: fib.OK, false: fib.ErrImage}[first <= 250])
	}
	for d := range 2 + len(rest) {
		bytes := image(4, 1, nodeMark+d, rest)
		if d >= 2 && (d-2)%len(one) == 0 {
			wantGood(t, "one of four nodes", bytes)
		} else {
			wantImageIs(t, bytes)
		}
	}
}

// The same values in a node's entry, which is the node's last one.
func TestLoadLaterEntries(t *testing.T) {
	for entry := range 65536 {
		e := fib.ErrImage
		if entry <= 250 || entry == nodeMark+2 {
			e = fib.OK
		}
		node := "\x01\x03\x00\x07" + u16(entry) + "\x01\x01\x00\x05"
		wantLoadIs(t, image(2, 2, nodeMark+2, node), e)
	}
}

// From 251 to 1001 there are no entries, though good nodes lie where those
// would be that they seem to tell of.
func TestLoadNoEntries(t *testing.T) {
	behind := strings.Repeat("\x01\x01\x00\x05", 260)
	for entry := 251; entry < nodeMark+2; entry++ {
		for pad := range 4 {
			nodes := behind + strings.Repeat("x", pad) + "\x01\x01" + u16(entry) + behind
			wantLoadIs(t, image(4, 4, nodeMark+2+len(behind)+pad, nodes), fib.ErrImage)
		}
	}
	for pad := range 4 {
		nodes := behind + strings.Repeat("x", pad) + "\x01\x01" + u16(nodeMark+2) + behind
		wantGood(t, "a good node behind others", image(4, 4, nodeMark+2+len(behind)+pad, nodes))
	}
	// The byte ahead of 999 and its own bytes would be a node, whose first entry,
	// e700, tells of one far away; so with 998 and the two bytes ahead.
	ahead := "\x01\x03\x00\x01\x03\xe7\x00\x00\x05"
	away := strings.Repeat("\x00", 5+0xe700-nodeMark-len(ahead))
	wantBad(t, "999", image(4, 4, nodeMark+2, ahead+away+one))
	ahead = "\x01\x03\x04\x01\x03\xe6\x00\x00\x05\x00\x05"
	ahead += strings.Repeat("\x00", 2+0x0401-nodeMark-len(ahead)) + one
	away = strings.Repeat("\x00", 5+0xe600-nodeMark-len(ahead))
	wantBad(t, "998", image(12, 12, nodeMark+2, ahead+away+one))
}

func TestLoadStrides(t *testing.T) {
	for stride := range 256 {
		size := 2
		if stride < 13 {
			size = 1 << stride
		}
		node := string([]byte{byte(stride), 1}) + strings.Repeat("\x00", max(1, size/8)-1) + u16(250)
		for width := 1; width <= 12; width++ {
			if stride >= 1 && stride <= width {
				wantGood(t, "a stride", image(width, 1, nodeMark+2, node))
				wantBad(t, "a stride, a byte short", image(width, 1, nodeMark+2, node[:len(node)-1]))
				wantBad(t, "a stride, no entry", image(width, 1, nodeMark+2, node[:len(node)-2]))
				wantBad(t, "a stride, its bits cut", image(width, 1, nodeMark+2, node[:len(node)-3]))
				wantBad(t, "a stride alone", image(width, 1, nodeMark+2, node[:1]))
			} else {
				wantBad(t, "no stride", image(width, 1, nodeMark+2, node))
			}
		}
	}
	wantBad(t, "a node at the end", image(4, 1, nodeMark+2, ""))
}

// A whole node of stride 12: all of its slots begin runs.
func TestLoadGreatNode(t *testing.T) {
	node := "\x0c" + strings.Repeat("\xff", 512)
	for i := range 4096 {
		node += u16(i % 251)
	}
	wantGood(t, "4096 entries", image(12, 1, nodeMark+2, node))
	wantBad(t, "4096 entries, the last one is none", image(12, 1, nodeMark+2, node[:len(node)-2]+u16(251)))
	wantBad(t, "4095 entries", image(12, 1, nodeMark+2, node[:len(node)-2]))
	wantGood(t, "more than 4096 entries", image(12, 1, nodeMark+2, node+"x"))
}

func TestLoadBits(t *testing.T) {
	for bits := range 256 {
		node1 := string([]byte{1, byte(bits)}) + strings.Repeat("\x00\x05", 8)
		node2 := string([]byte{2, byte(bits)}) + strings.Repeat("\x00\x05", 8)
		node3 := string([]byte{3, byte(bits)}) + strings.Repeat("\x00\x05", 8)
		wantLoadIs(t, image(3, 1, nodeMark+2, node1), loadOfBits(bits, bits < 4))
		wantLoadIs(t, image(3, 1, nodeMark+2, node2), loadOfBits(bits, bits < 16))
		wantLoadIs(t, image(3, 1, nodeMark+2, node3), loadOfBits(bits, true))
		low := string([]byte{4, byte(bits), 0xa5}) + strings.Repeat("\x00\x05", 12)
		high := string([]byte{4, 0xa5, byte(bits)}) + strings.Repeat("\x00\x05", 12)
		wantLoadIs(t, image(4, 1, nodeMark+2, low), loadOfBits(bits, true))
		wantLoadIs(t, image(4, 1, nodeMark+2, high), fib.OK)
	}
}

func loadOfBits(bits int, slotsAlone bool) fib.Errno {
	if bits%2 == 1 && slotsAlone {
		return fib.OK
	}
	return fib.ErrImage
}

// chain has so many nodes of stride 1, each behind the other's last entry.
func chain(nodes int) string {
	text := ""
	for i := 1; i < nodes; i++ {
		text += "\x01\x03" + u16(i) + u16(nodeMark+2)
	}
	return text + one
}

func TestLoadNodesLeft(t *testing.T) {
	for width := 1; width <= 12; width++ {
		for depth := 0; depth <= width; depth++ {
			for nodes := 1; nodes <= 13; nodes++ {
				e := fib.ErrImage
				if nodes <= depth {
					e = fib.OK
				}
				wantLoadIs(t, image(width, depth, nodeMark+2, chain(nodes)), e)
			}
		}
	}
}

// Two nodes whose strides are more than the width in sum, though none is alone.
func TestLoadBitsLeft(t *testing.T) {
	for width := 2; width <= 6; width++ {
		for above := 1; above <= width; above++ {
			for below := 1; below <= width; below++ {
				e := fib.ErrImage
				if above+below <= width {
					e = fib.OK
				}
				node := string([]byte{byte(above), 1}) + strings.Repeat("\x00", max(1, 1<<above/8)-1) + u16(nodeMark+2)
				node += string([]byte{byte(below), 1}) + strings.Repeat("\x00", max(1, 1<<below/8)-1) + u16(3)
				wantLoadIs(t, image(width, 2, nodeMark+2, node), e)
			}
		}
	}
}

func TestLoadSharedNodes(t *testing.T) {
	twice := "\x01\x03" + entries(nodeMark+4, nodeMark+2) + one
	wantGood(t, "a node twice", image(2, 2, nodeMark+2, twice))
	wantBad(t, "a node twice, depth 1", image(2, 1, nodeMark+2, twice))
	wantBad(t, "a node twice, width 1", image(1, 1, nodeMark+2, twice))
	// The second slot's entry goes past a node, to one that is shared with it.
	skip := "\x01\x03" + entries(nodeMark+4, nodeMark+8) + "\x01\x03" + entries(nodeMark+4, 5) + one
	wantGood(t, "a node that lies at two depths", image(3, 3, nodeMark+2, skip))
	wantBad(t, "a node that lies at two depths, depth 2", image(3, 2, nodeMark+2, skip))
	wantBad(t, "a node that lies at two depths, width 2", image(2, 2, nodeMark+2, skip))
	// A node that begins within the entries of the one that tells of it.
	within := "\x02\x07" + entries(nodeMark+2, 0x0101, 5)
	wantBad(t, "entries that are no entries", image(4, 2, nodeMark+2, within))
	within = "\x01\x01" + entries(nodeMark+2) + "\x01\x01\x00\x05"
	wantGood(t, "right behind the entry", image(2, 2, nodeMark+2, within))
	within = "\x01\x03" + entries(nodeMark+3, 0x0001) + "\x01\x00\x09"
	wantGood(t, "bytes of two things", image(2, 2, nodeMark+2, within))
}

func TestLoadWhateverElse(t *testing.T) {
	wantGood(t, "bytes behind a hop", image(4, 0, 9, "\x01\x02\x03"))
	wantGood(t, "a bad node that nothing tells of", image(4, 1, nodeMark+2, one+"\x00\x00\x03\xe8"))
	wantGood(t, "bytes ahead of a node", image(4, 1, nodeMark+5, "\xff\xff\xff"+one))
	wantGood(t, "more depth than nodes", image(4, 4, nodeMark+2, one))
	wantBad(t, "a node that reaches into the sum", image(4, 1, nodeMark+2, one[:4]))
}

// Each node's two entries tell of the next one: more ways than there are
// bytes, the worst that can be.
func TestLoadManyWays(t *testing.T) {
	text := ""
	for range 11 {
		text += "\x01\x03" + entries(nodeMark+4, nodeMark+2)
	}
	for range 20 {
		wantLoadIs(t, image(12, 12, nodeMark+2, text+one), fib.OK)
		wantLoadIs(t, image(12, 12, nodeMark+2, text+one[:4]+u16(999)), fib.ErrImage)
	}
	wantGood(t, "4096 ways", image(12, 12, nodeMark+2, text+one))
	wantBad(t, "4096 ways and depth 11", image(12, 11, nodeMark+2, text+one))
}

func TestLoadThrownImages(t *testing.T) {
	d := &dice{state: 8}
	good, bad := 0, 0
	for range 6000 {
		bytes := d.image(1 + d.below(7))
		for range d.below(3) {
			at := 2 + d.below(len(bytes)-4)
			bytes = resealed(bytes[:at] + string([]byte{byte(d.below(256))}) + bytes[at+1:])
		}
		if wantImageIs(t, bytes) {
			good++
		} else {
			bad++
		}
	}
	if good < 1000 || bad < 1000 {
		t.Errorf("%d good images and %d bad ones are too few", good, bad)
	}
}
