package fib_test

import (
	"strings"
	"testing"

	"fibimage/fib"
)

func wantLookupIs(t *testing.T, bytes string, from int, addr int, hop int, nodes int, e fib.Errno) {
	t.Helper()
	gotHop, gotNodes, gotE := fib.Lookup(bytes, from, addr)
	if gotHop != hop || gotNodes != nodes || gotE != e {
		t.Errorf("P9: Lookup(%.60x, %d, %d) = %d, %d, %d, want %d, %d, %d", bytes, from, addr, gotHop, gotNodes, gotE, hop, nodes, e)
	}
}

func TestLookupExamples(t *testing.T) {
	two := fromHex(t, exampleImages[1].digits)
	wantLookupIs(t, two, 0, 9, 2, 1, fib.OK)
	four := fromHex(t, exampleImages[2].digits)
	wantLookupIs(t, four, 0, 0, 99, 1, fib.OK)
	wantLookupIs(t, four, 0, 48, 9, 2, fib.OK)
	wantLookupIs(t, four, 0, 32, 1, 3, fib.OK)
	wantLookupIs(t, four, 0, 40, 10, 4, fib.OK)
	wantLookupIs(t, four, 0, 47, 1, 4, fib.OK)
	for _, example := range exampleImages {
		bytes := fromHex(t, example.digits)
		width := int(bytes[2])
		for addr := range 1 << width {
			hop, _ := wantFind(example.text, width, addr)
			if got, _, e := fib.Lookup(bytes, 0, addr); got != hop || e != fib.OK {
				t.Errorf("P9: %q: address %d has the hop %d, error %d, want %d", example.text, addr, got, e, hop)
			}
		}
	}
}

// Two nodes: one of stride 2, whose slots 01 and 10 share the other.
var twoDeep = image(3, 2, nodeMark+2, "\x02\x0b"+entries(5, nodeMark+4, 0)+one)

var twoDeepWalks = [8][2]int{{5, 1}, {5, 1}, {7, 2}, {9, 2}, {7, 2}, {9, 2}, {0, 1}, {0, 1}}

func TestLookupFrom(t *testing.T) {
	others := []string{"", "x", twoDeep, "FI", "FI\x03\x02", "FI\x03\x02\x00\x1a", strings.Repeat("\x00", 70000), "\xff\xff\xff"}
	for _, ahead := range others {
		for _, behind := range others {
			bytes := ahead + twoDeep + behind
			for addr, walk := range twoDeepWalks {
				wantLookupIs(t, bytes, len(ahead), addr, walk[0], walk[1], fib.OK)
			}
			wantLookupIs(t, bytes, len(ahead), 8, 0, 0, fib.ErrArg)
			wantLookupIs(t, bytes, len(ahead)+1, 0, 0, 0, fib.ErrImage)
		}
	}
}

func TestLookupAtEveryPlace(t *testing.T) {
	other := image(1, 0, 44, "FI")
	bytes := twoDeep + other + "FI" + twoDeep + twoDeep[:len(twoDeep)-1]
	second := len(twoDeep)
	third := second + len(other) + 2
	for from := 0; from <= len(bytes); from++ {
		switch from {
		case 0, third:
			wantLookupIs(t, bytes, from, 3, 9, 2, fib.OK)
		case second:
			wantLookupIs(t, bytes, from, 1, 44, 0, fib.OK)
			wantLookupIs(t, bytes, from, 3, 0, 0, fib.ErrArg)
		default:
			wantLookupIs(t, bytes, from, 1, 0, 0, fib.ErrImage)
		}
	}
	for _, from := range []int{minInt, minInt + 10, -len(bytes), -1, len(bytes) + 1, len(bytes) + 2, 1 << 40, maxInt - 5, maxInt} {
		wantLookupIs(t, bytes, from, 1, 0, 0, fib.ErrArg)
	}
}

// An image that is cut is none, though what it tells of is all there; one
// that lies whole in more bytes is.
func TestLookupCutImages(t *testing.T) {
	spare := image(3, 2, 77, strings.Repeat("\x00", 20))
	for n := 0; n < len(spare); n++ {
		wantLookupIs(t, spare[:n], 0, 0, 0, 0, fib.ErrImage)
		wantLookupIs(t, "ab"+spare[:n], 2, 0, 0, 0, fib.ErrImage)
	}
	wantLookupIs(t, spare, 0, 0, 77, 0, fib.OK)
	long := image(3, 2, 7, "") + strings.Repeat("\x00", 65536)
	wantLookupIs(t, long, 0, 0, 7, 0, fib.OK)
	wantLoadIs(t, long, fib.ErrImage)
	// A node must not reach beyond its image into what lies behind it.
	short := image(3, 2, nodeMark+2, "\x01\x03\x00\x07") + "\x00\x09"
	wantLookupIs(t, short+short, 0, 0, 0, 0, fib.ErrImage)
	past := image(3, 2, nodeMark+4, "") + one
	wantLookupIs(t, past, 0, 0, 0, 0, fib.ErrImage)
	// Nor may it be told in less bytes than an image has.
	for told := range 10 {
		wantLookupIs(t, "FI\x03\x00\x00"+string(rune(told))+"\x00\x07\x00\x00\x00\x00", 0, 0, 0, 0, fib.ErrImage)
	}
}

func TestLookupAddresses(t *testing.T) {
	for width := 1; width <= 12; width++ {
		bytes := image(width, 1, nodeMark+2, one)
		last := 1<<width - 1
		wantLookupIs(t, bytes, 0, 0, 7, 1, fib.OK)
		wantLookupIs(t, bytes, 0, last/2, 7, 1, fib.OK)
		wantLookupIs(t, bytes, 0, last/2+1, 9, 1, fib.OK)
		wantLookupIs(t, bytes, 0, last, 9, 1, fib.OK)
		for _, addr := range []int{minInt, minInt + last, -last - 1, -last, -1, last + 1, last + 2, 2*last + 1, 1 << 32, maxInt} {
			wantLookupIs(t, bytes, 0, addr, 0, 0, fib.ErrArg)
			wantLookupIs(t, image(width, width, 9, ""), 0, addr, 0, 0, fib.ErrArg)
		}
	}
}

func TestLookupErrors(t *testing.T) {
	wantLookupIs(t, "", 0, 0, 0, 0, fib.ErrImage)
	wantLookupIs(t, "", 0, -1, 0, 0, fib.ErrImage)
	wantLookupIs(t, "", 1, 0, 0, 0, fib.ErrArg)
	wantLookupIs(t, "", -1, 0, 0, 0, fib.ErrArg)
	wantLookupIs(t, "xyz", 4, -1, 0, 0, fib.ErrArg)
	wantLookupIs(t, "xyz", 3, -1, 0, 0, fib.ErrImage)
	wantLookupIs(t, twoDeep, -1, 0, 0, 0, fib.ErrArg)
	wantLookupIs(t, twoDeep, 1, 8, 0, 0, fib.ErrImage)
	wantLookupIs(t, twoDeep, len(twoDeep), 8, 0, 0, fib.ErrImage)
	wantLookupIs(t, twoDeep, len(twoDeep)+1, 8, 0, 0, fib.ErrArg)
	wantLookupIs(t, twoDeep, 0, 8, 0, 0, fib.ErrArg)
	// The address is looked at only in an image that is good.
	spoiled := twoDeep[:len(twoDeep)-1] + "\x00"
	wantLookupIs(t, spoiled, 0, 8, 0, 0, fib.ErrImage)
	// A bad entry is found on whatever way it lies.
	bad := image(2, 1, nodeMark+2, "\x01\x03"+entries(7, 251))
	wantLookupIs(t, bad, 0, 0, 0, 0, fib.ErrImage)
}

// Every slot of a node whose runs begin at these slots.
func TestLookupRuns(t *testing.T) {
	for stride := 1; stride <= 12; stride++ {
		size := 1 << stride
		for _, step := range []int{1, 2, 3, 7, 8, 9, 64, 4096} {
			bits := make([]byte, max(1, size/8))
			node := ""
			for slot := 0; slot < size; slot += step {
				bits[slot/8] |= 1 << (slot % 8)
				node += u16(1 + slot/step%250)
			}
			node = string([]byte{byte(stride)}) + string(bits) + node
			bytes := image(12, 1, nodeMark+2, node)
			for addr := 0; addr < 4096; addr += 11 {
				slot := addr >> (12 - stride)
				wantLookupIs(t, bytes, 0, addr, 1+slot/step%250, 1, fib.OK)
			}
		}
	}
}

// Nodes of unlike strides, one below the other: each takes its own bits.
func TestLookupChains(t *testing.T) {
	for nodes := 1; nodes <= 12; nodes++ {
		bytes := image(12, nodes, nodeMark+2, chain(nodes))
		for n := 1; n < nodes; n++ {
			wantLookupIs(t, bytes, 0, 4095-1<<(12-n), n, n, fib.OK)
		}
		wantLookupIs(t, bytes, 0, 4095-1<<(12-nodes), 7, nodes, fib.OK)
		wantLookupIs(t, bytes, 0, 4095, 9, nodes, fib.OK)
	}
	unlike := image(6, 3, nodeMark+2, "\x01\x03"+entries(nodeMark+4, 1)+
		"\x03\x29"+entries(2, nodeMark+4, 3)+"\x02\x0d"+entries(4, 5, 6))
	wantGood(t, "unlike strides", unlike)
	wantLookupIs(t, unlike, 0, 0b1_000_00, 1, 1, fib.OK)
	wantLookupIs(t, unlike, 0, 0b0_010_11, 2, 2, fib.OK)
	wantLookupIs(t, unlike, 0, 0b0_101_00, 3, 2, fib.OK)
	wantLookupIs(t, unlike, 0, 0b0_011_00, 4, 3, fib.OK)
	wantLookupIs(t, unlike, 0, 0b0_100_01, 4, 3, fib.OK)
	wantLookupIs(t, unlike, 0, 0b0_100_10, 5, 3, fib.OK)
	wantLookupIs(t, unlike, 0, 0b0_011_11, 6, 3, fib.OK)
}

func TestLookupThrownImages(t *testing.T) {
	d := &dice{state: 9}
	for range 300 {
		bytes := d.image(1 + d.below(12))
		walks := wantWalks(bytes)
		ahead := strings.Repeat("F", d.below(5))
		for range 40 {
			addr := d.below(1 << bytes[2])
			if walks == nil {
				wantLookupIs(t, ahead+bytes+"I", len(ahead), addr, 0, 0, fib.ErrImage)
			} else {
				wantLookupIs(t, ahead+bytes+"I", len(ahead), addr, walks[addr][0], walks[addr][1], fib.OK)
			}
		}
	}
}
