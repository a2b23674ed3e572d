package fib_test

import (
	"strings"
	"testing"

	"fibimage/fib"
)

func wantCostIs(t *testing.T, text string, width int, depth int, cost int, e fib.Errno) {
	t.Helper()
	if gotCost, gotE := fib.Cost(text, width, depth); gotCost != cost || gotE != e {
		t.Errorf("P6: Cost(%.60q, %d, %d) = %d, %d, want %d, %d", text, width, depth, gotCost, gotE, cost, e)
	}
}

// wantCosts is for a table: its costs with depth 1, 2 and on; the last one
// holds for all depths behind it.
func wantCosts(t *testing.T, text string, width int, costs ...int) {
	t.Helper()
	for depth := 1; depth <= width; depth++ {
		cost := costs[min(depth, len(costs))-1]
		wantCostIs(t, text, width, depth, cost, fib.OK)
	}
}

func TestCostExamples(t *testing.T) {
	wantCostIs(t, "", 4, 1, 0, fib.OK)
	wantCostIs(t, "0 1\n1 2\n", 4, 1, 2, fib.OK)
	wantCosts(t, "0000 1\n1111 1\n", 4, 16, 12)
	text := "000000000000 2\n111111111111 1\n"
	for depth, cost := range []int{4096, 192, 80, 56} {
		wantCostIs(t, text, 12, depth+1, cost, fib.OK)
	}
	wantCostIs(t, text, 12, 12, 44, fib.OK)
	wantCostIs(t, "0000 1\n1111 1\n", 4, 5, 0, fib.ErrArg)
}

func TestCostOfNoNode(t *testing.T) {
	for width := 1; width <= 12; width++ {
		wantCosts(t, "", width, 0)
		wantCosts(t, "* 1\n", width, 0)
		wantCosts(t, "* 250\n* 1\n* 9\n", width, 0)
	}
}

// One route has one node at each place: its bits are parted into strides that
// are as like each other as can be.
func TestCostOfOneRoute(t *testing.T) {
	wantCosts(t, "1 7\n", 1, 2)
	wantCosts(t, "0 7\n* 8\n", 12, 2)
	wantCosts(t, "10 7\n", 2, 4)
	wantCosts(t, "101 7\n", 3, 8, 6)
	wantCosts(t, "10101 7\n", 6, 32, 12, 10)
	wantCosts(t, "101010101010 7\n", 12, 4096, 128, 48, 32, 28, 24)
}

func TestCostOfWholeTrees(t *testing.T) {
	wantCosts(t, "00 1\n01 2\n10 3\n11 4\n", 2, 4)
	// A stride of 1 and two of 1 are 6, where one of 2 is 4.
	wantCosts(t, "00 1\n10 3\n", 3, 4)
	// A stride of 2 leaves the node 10 alone, a stride of 1 leaves 0 and 1.
	wantCosts(t, "00 1\n01 1\n1000 1\n", 4, 16, 8)
	// A stride of 2 leaves the node 11 alone, a stride of 1 leaves 0 and 1.
	wantCosts(t, "00 1\n111 1\n", 3, 8, 6)
}

// The nodes hang on the bits alone: not on hops, on the order of the lines, or
// on lines that do not count.
func TestCostOfTheSameBits(t *testing.T) {
	wantCosts(t, "01 7\n01 8\n", 2, 4)
	for _, text := range []string{
		"0 1\n0110 2\n10 3\n", "10 3\n0110 2\n0 1\n", "0110 250\n* 3\n10 7\n0 7\n",
		"0110 9\n0110 2\n10 1\n10 3\n0110 9\n", "0110 2\n10 2\n",
	} {
		wantCosts(t, text, 4, 16, 8)
	}
}

func TestCostDepths(t *testing.T) {
	text := "1 1\n"
	for width := -1; width <= 14; width++ {
		for depth := -1; depth <= 14; depth++ {
			if width >= 1 && width <= 12 && depth >= 1 && depth <= width {
				wantCostIs(t, text, width, depth, 2, fib.OK)
			} else {
				wantCostIs(t, text, width, depth, 0, fib.ErrArg)
			}
		}
		for _, depth := range []int{minInt, minInt + 1, 1 << 32, maxInt} {
			wantCostIs(t, text, width, depth, 0, fib.ErrArg)
		}
	}
}

func TestCostErrors(t *testing.T) {
	many := strings.Repeat("1 1\n", 25)
	wantCostIs(t, longTable(401), 12, 1, 0, fib.ErrLong)
	wantCostIs(t, longTable(401), 12, 0, 0, fib.ErrLong)
	wantCostIs(t, strings.Repeat("x", 401), 0, 13, 0, fib.ErrLong)
	wantCostIs(t, longTable(400), 12, 1, 4096, fib.OK)
	wantCostIs(t, strings.Repeat("x", 400), 12, 13, 0, fib.ErrArg)
	wantCostIs(t, "x", 0, 1, 0, fib.ErrArg)
	wantCostIs(t, "x", 4, 0, 0, fib.ErrArg)
	wantCostIs(t, "x", 4, 5, 0, fib.ErrArg)
	wantCostIs(t, many, 4, 5, 0, fib.ErrArg)
	wantCostIs(t, many+"x", 13, 13, 0, fib.ErrArg)
	wantCostIs(t, "x", 4, 4, 0, fib.ErrSyntax)
	wantCostIs(t, "00 1\n", 1, 1, 0, fib.ErrSyntax)
	wantCostIs(t, "1 1\n1 1", 4, 4, 0, fib.ErrSyntax)
	wantCostIs(t, many+"x", 4, 4, 0, fib.ErrSyntax)
	wantCostIs(t, many, 4, 4, 0, fib.ErrMany)
	wantCostIs(t, strings.Repeat("1 1\n", 24), 4, 4, 2, fib.OK)
}

// Every table with routes of up to two bits, and with one of four.
func TestCostSmallTables(t *testing.T) {
	all := []string{"* 1\n", "0 1\n", "00 1\n", "01 1\n", "1 1\n", "10 1\n", "11 1\n", "0110 1\n", "1011 1\n"}
	for chosen := 0; chosen < 1<<len(all); chosen++ {
		text := ""
		for i, line := range all {
			if chosen>>i&1 == 1 {
				text += line
			}
		}
		for depth := 0; depth <= 5; depth++ {
			cost, e := wantCost(text, 4, depth)
			wantCostIs(t, text, 4, depth, cost, e)
		}
	}
}

func TestCostThrownTables(t *testing.T) {
	d := &dice{state: 6}
	for i := 0; i < 400; i++ {
		width := 1 + d.below(12)
		text := d.table(d.below(27), width)
		if d.below(8) == 0 {
			text = d.spoil(text)
		}
		for depth := d.below(3); depth <= width+1; depth += 1 + d.below(4) {
			cost, e := wantCost(text, width, depth)
			wantCostIs(t, text, width, depth, cost, e)
		}
	}
}

// As many nodes as a table can have.
func TestCostGreatTables(t *testing.T) {
	text := ""
	for i := 0; i < 24; i++ {
		text += strings.Repeat("0", 11-i%12) + strings.Repeat("1", i%12) + string(rune('0'+i/12)) + " 1\n"
	}
	spread := ""
	d := &dice{state: 7}
	for i := 0; i < 24; i++ {
		for n := 4; n >= 0; n-- {
			spread += string(rune('0' + i>>n&1))
		}
		for n := 0; n < 7; n++ {
			spread += string(rune('0' + d.below(2)))
		}
		spread += " 9\n"
	}
	for depth := 1; depth <= 12; depth++ {
		for _, table := range []string{text, spread} {
			cost, e := wantCost(table, 12, depth)
			wantCostIs(t, table, 12, depth, cost, e)
			if e != fib.OK {
				t.Fatalf("no table: %q", table)
			}
		}
	}
}
