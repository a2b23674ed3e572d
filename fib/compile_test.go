package fib_test

import (
	"fmt"
	"strings"
	"testing"

	"fibimage/fib"
)

func wantCompileIs(t *testing.T, text string, width int, depth int, limit int, image string, e fib.Errno) {
	t.Helper()
	if gotImage, gotE := fib.Compile(text, width, depth, limit); gotImage != image || gotE != e {
		t.Errorf("P7: Compile(%.60q, %d, %d, %d) = %.60x, %d, want %.60x, %d", text, width, depth, limit, gotImage, gotE, image, e)
	}
}

func wantRefused(t *testing.T, text string, width int, depth int, limit int, e fib.Errno) {
	t.Helper()
	wantCompileIs(t, text, width, depth, limit, "", e)
}

// wantCompiled is for a table: it holds its image against all that P7 says of
// it, but for the calls that wantFoundAlike makes, and answers it.
func wantCompiled(t *testing.T, text string, width int, depth int) string {
	t.Helper()
	image, e := fib.Compile(text, width, depth, maxInt)
	walks := wantWalks(image)
	if e != fib.OK || walks == nil || fib.Load(image) != fib.OK {
		t.Fatalf("P7: Compile(%q, %d, %d) = %.60x, %d: the image is not good", text, width, depth, image, e)
	}
	if int(image[2]) != width || int(image[3]) > depth {
		t.Errorf("P7: Compile(%q, %d, %d) has the width %d and the depth %d", text, width, depth, image[2], image[3])
	}
	cost, _ := wantCost(text, width, depth)
	if slots := wantSlots(image); slots > cost || len(image) > 10+5*cost {
		t.Errorf("P7: Compile(%q, %d, %d) has %d slots and %d bytes, the cost is %d", text, width, depth, slots, len(image), cost)
	}
	for addr, hop := range wantHops(text, width) {
		if walks[addr][0] != hop || walks[addr][1] > depth {
			t.Errorf("P7: Compile(%q, %d, %d): address %d has the hop %d (%d nodes), want %d", text, width, depth, addr, walks[addr][0], walks[addr][1], hop)
		}
	}
	wantCompileIs(t, text, width, depth, len(image), image, fib.OK)
	wantRefused(t, text, width, depth, len(image)-1, fib.ErrSize)
	printed, _ := wantPrint(text, width)
	wantCompileIs(t, printed, width, depth, maxInt, image, fib.OK)
	return image
}

// wantFoundAlike holds Find and Lookup of the image against each other.
func wantFoundAlike(t *testing.T, text string, width int, image string) {
	t.Helper()
	for addr := range 1 << width {
		hop, e := fib.Find(text, width, addr)
		walked, _, walkedE := fib.Lookup(image, 0, addr)
		if e != fib.OK || walkedE != fib.OK || hop != walked {
			t.Errorf("P7: %q with width %d: address %d has the hop %d, error %d, in its image %d, error %d", text, width, addr, hop, e, walked, walkedE)
		}
	}
}

// Other images would be as good, but these are the ones of the document.
func TestCompileExamples(t *testing.T) {
	depths := []int{1, 1, 6}
	for i, example := range exampleImages {
		bytes := fromHex(t, example.digits)
		width := int(bytes[2])
		wantCompileIs(t, example.text, width, depths[i], 99, bytes, fib.OK)
		for depth := 1; depth <= width; depth++ {
			image := wantCompiled(t, example.text, width, depth)
			wantFoundAlike(t, example.text, width, image)
		}
	}
	wantRefused(t, "* 7\n", 4, 1, 9, fib.ErrSize)
}

// A table without a node has an image without one: its first entry says all.
func TestCompileOfNoNode(t *testing.T) {
	for width := 1; width <= 12; width++ {
		for depth := 1; depth <= width; depth++ {
			wantCompileIs(t, "", width, depth, 10, image(width, 0, 0, ""), fib.OK)
			wantCompileIs(t, "* 1\n", width, depth, 10, image(width, 0, 1, ""), fib.OK)
			wantCompileIs(t, "* 3\n* 250\n", width, depth, maxInt, image(width, 0, 250, ""), fib.OK)
			for _, text := range []string{"", "* 1\n", "* 3\n* 250\n"} {
				wantCompiled(t, text, width, depth)
				wantRefused(t, text, width, depth, 9, fib.ErrSize)
			}
		}
	}
}

// A route of each length, at both ends of the addresses and between them.
func TestCompileOfOneRoute(t *testing.T) {
	for width := 1; width <= 12; width++ {
		for n := 1; n <= width; n++ {
			for _, bits := range []string{strings.Repeat("0", n), strings.Repeat("1", n), strings.Repeat("10", n)[:n]} {
				for depth := 1; depth <= width; depth += 1 + width/5 {
					wantCompiled(t, bits+" 250\n", width, depth)
					wantCompiled(t, bits+" 1\n* 9\n", width, depth)
				}
			}
		}
	}
}

// Routes within routes: that with the most bits counts in each slot, though
// it may end within a stride, ahead of it, or at its end.
func TestCompileOfNestedRoutes(t *testing.T) {
	for _, text := range []string{
		"* 3\n1 2\n101 9\n", "1 2\n10 3\n101 4\n1010 5\n", "0 1\n01 2\n011 3\n0110 4\n1 5\n11 6\n",
		"* 1\n0000 2\n000 3\n00 4\n0 5\n", "0 7\n0000 7\n* 7\n1111 7\n", "0110 1\n1001 2\n",
		"0000 1\n1111 1\n", "00 1\n01 1\n1000 1\n", "0000 1\n0001 2\n0010 3\n0011 4\n01 5\n",
		"0001 1\n0101 1\n1001 1\n1101 1\n", "0001 1\n0101 2\n1001 1\n1101 2\n* 8\n",
	} {
		for width := 4; width <= 6; width++ {
			for depth := 1; depth <= width; depth++ {
				image := wantCompiled(t, text, width, depth)
				wantFoundAlike(t, text, width, image)
			}
		}
	}
}

// Slots side by side that lead to the same, a node too, have one entry.
func TestCompileRuns(t *testing.T) {
	bits := "\x01" + strings.Repeat("\x00", 510) + "\x80"
	wantCompileIs(t, "111111111111 5\n", 12, 1, maxInt, image(12, 1, nodeMark+2, "\x0c"+bits+entries(0, 5)), fib.OK)
	wantCompileIs(t, "* 5\n111111111111 5\n", 12, 1, maxInt, image(12, 1, nodeMark+2, "\x0c\x01"+bits[1:511]+"\x00"+entries(5)), fib.OK)
	below := strings.Repeat("\x01\x03"+entries(nodeMark+4, 0), 2) + "\x01\x03" + entries(5, 0)
	wantCompileIs(t, "01000 5\n10000 5\n", 5, 5, maxInt,
		image(5, 4, nodeMark+2, "\x02\x0b"+entries(0, nodeMark+4, 0)+below), fib.OK)
	wantCompiled(t, "01000 5\n10000 5\n", 5, 5)
	wantCompileIs(t, "00 7\n01 9\n1 3\n", 3, 1, maxInt, image(3, 1, nodeMark+2, "\x02\x07"+entries(7, 9, 3)), fib.OK)
}

func TestCompileErrors(t *testing.T) {
	many := strings.Repeat("1 1\n", 25)
	for _, limit := range []int{minInt, -1, 0, 9, 10, 99, maxInt} {
		wantRefused(t, longTable(401), 12, 1, limit, fib.ErrLong)
		wantRefused(t, longTable(401), 12, 0, limit, fib.ErrLong)
		wantRefused(t, longTable(401), 13, 1, limit, fib.ErrLong)
		wantRefused(t, strings.Repeat("x", 401), 0, 13, limit, fib.ErrLong)
		wantRefused(t, strings.Repeat("x", 400), 12, 13, limit, fib.ErrArg)
		wantRefused(t, "x", 0, 1, limit, fib.ErrArg)
		wantRefused(t, "x", 13, 1, limit, fib.ErrArg)
		wantRefused(t, "x", 4, 0, limit, fib.ErrArg)
		wantRefused(t, "x", 4, 5, limit, fib.ErrArg)
		wantRefused(t, many, 4, 5, limit, fib.ErrArg)
		wantRefused(t, "", 4, -1, limit, fib.ErrArg)
		wantRefused(t, "x", 4, 4, limit, fib.ErrSyntax)
		wantRefused(t, "00 1\n", 1, 1, limit, fib.ErrSyntax)
		wantRefused(t, "1 1\n1 1", 4, 4, limit, fib.ErrSyntax)
		wantRefused(t, many+"x", 4, 4, limit, fib.ErrSyntax)
		wantRefused(t, many, 4, 4, limit, fib.ErrMany)
	}
	wantCompiled(t, longTable(400), 12, 1)
	wantCompiled(t, strings.Repeat("1 1\n", 24), 4, 4)
}

func TestCompileDepths(t *testing.T) {
	text := "1 1\n"
	good := "\x01\x03" + entries(0, 1)
	for width := -1; width <= 14; width++ {
		for depth := -1; depth <= 14; depth++ {
			if width >= 1 && width <= 12 && depth >= 1 && depth <= width {
				wantCompileIs(t, text, width, depth, 16, image(width, 1, nodeMark+2, good), fib.OK)
			} else {
				wantRefused(t, text, width, depth, 16, fib.ErrArg)
			}
		}
		for _, depth := range []int{minInt, minInt + 1, 1 << 32, maxInt} {
			wantRefused(t, text, width, depth, 16, fib.ErrArg)
		}
	}
}

// The limit decides whether there is an image, and not which one.
func TestCompileLimits(t *testing.T) {
	for _, text := range []string{"", "* 7\n", "0 1\n1 2\n", "0000 1\n1111 1\n", "* 99\n1 9\n10 1\n1010 10\n", longTable(400)} {
		for _, depth := range []int{1, 2, 12} {
			image := wantCompiled(t, text, 12, depth)
			for _, below := range []int{minInt, minInt + len(image), -len(image), -1, 0, 1, len(image) / 2, len(image) - 2, len(image) - 1} {
				wantRefused(t, text, 12, depth, below, fib.ErrSize)
			}
			for _, enough := range []int{len(image), len(image) + 1, 2 * len(image), 65535, 65536, 1 << 40, maxInt - 1, maxInt} {
				wantCompileIs(t, text, 12, depth, enough, image, fib.OK)
			}
		}
	}
}

// The order of the lines does not matter, nor do lines that do not count.
func TestCompileOfTheSameTable(t *testing.T) {
	d := &dice{state: 10}
	for range 200 {
		width := 1 + d.below(12)
		lines := strings.SplitAfter(d.table(1+d.below(12), width), "\n")
		printed, _ := wantPrint(strings.Join(lines, ""), width)
		routes := strings.SplitAfter(printed, "\n")
		routes = routes[:len(routes)-1]
		for i := len(routes) - 1; i > 0; i-- {
			j := d.below(i + 1)
			routes[i], routes[j] = routes[j], routes[i]
		}
		thrown := strings.Join(routes, "")
		for _, route := range routes {
			bits, _, _ := strings.Cut(route, " ")
			old := fmt.Sprintf("%s %d\n", bits, 1+d.below(250))
			if len(thrown)+len(old) <= maxText && strings.Count(thrown, "\n") < maxRoutes && d.below(2) == 0 {
				thrown = old + thrown
			}
		}
		depth := 1 + d.below(width)
		image := wantCompiled(t, printed, width, depth)
		wantCompileIs(t, thrown, width, depth, len(image), image, fib.OK)
		wantRefused(t, thrown, width, depth, len(image)-1, fib.ErrSize)
	}
}

// Every table of routes of up to two bits and two hops: each route is not
// there, or has one of the two.
func TestCompileSmallTables(t *testing.T) {
	all := []string{"*", "0", "00", "01", "1", "10", "11"}
	for chosen := range 2187 {
		text := ""
		rest := chosen
		for _, bits := range all {
			if rest%3 > 0 {
				text += fmt.Sprintf("%s %d\n", bits, rest%3)
			}
			rest /= 3
		}
		for width := 2; width <= 3; width++ {
			for depth := 1; depth <= width; depth++ {
				image := wantCompiled(t, text, width, depth)
				wantFoundAlike(t, text, width, image)
			}
		}
	}
}

func TestCompileThrownTables(t *testing.T) {
	d := &dice{state: 11}
	for range 600 {
		width := 1 + d.below(12)
		text := d.table(d.below(25), width)
		if len(text) > maxText {
			continue
		}
		if d.below(2) == 0 {
			text = fewHops(text)
		}
		for depth := 1 + d.below(3); depth <= width; depth += 1 + d.below(4) {
			image := wantCompiled(t, text, width, depth)
			if width < 7 {
				wantFoundAlike(t, text, width, image)
			}
		}
	}
}

// fewHops leaves a table two hops, so that neighbours are alike more often.
func fewHops(text string) string {
	few := ""
	for i, line := range strings.SplitAfter(text, "\n") {
		bits, _, found := strings.Cut(line, " ")
		if found {
			few += fmt.Sprintf("%s %d\n", bits, 1+i%2)
		}
	}
	return few
}

func TestCompileSpoiledTables(t *testing.T) {
	d := &dice{state: 12}
	refused := 0
	for range 2000 {
		width := 1 + d.below(12)
		text := d.spoil(d.table(d.below(27), width))
		depth := d.below(width + 2)
		_, e := wantCost(text, width, depth)
		if e == fib.OK {
			wantCompiled(t, text, width, depth)
			continue
		}
		refused++
		wantRefused(t, text, width, depth, d.below(300)-100, e)
	}
	if refused < 1000 {
		t.Errorf("%d texts that are refused are too few", refused)
	}
}

// As many nodes as a table can have, and as many entries as one node can.
func TestCompileGreatTables(t *testing.T) {
	long := ""
	spread := ""
	for i := range 24 {
		long += strings.Repeat("0", 11-i%12) + strings.Repeat("1", i%12) + fmt.Sprintf("%d %d\n", i/12, 1+i)
		spread += fmt.Sprintf("%05b%07b %d\n", i, 37*i%128, 1+i%9)
	}
	nested := ""
	for n := range 12 {
		nested += fmt.Sprintf("%012b %d\n%s0 %d\n", 4095>>n<<n, 10+n, strings.Repeat("1", n), 30+n)
	}
	for _, text := range []string{long, spread, nested} {
		if e, _ := wantCheck(text, 12); e != fib.OK {
			t.Fatalf("no table: %q", text)
		}
		for depth := 1; depth <= 12; depth++ {
			image := wantCompiled(t, text, 12, depth)
			if depth%5 == 1 {
				wantFoundAlike(t, text, 12, image)
			}
		}
	}
}
