package fib_test

import (
	"strings"
	"testing"

	"fibimage/fib"
)

func wantFindIs(t *testing.T, text string, width int, addr int, hop int, e fib.Errno) {
	t.Helper()
	if gotHop, gotE := fib.Find(text, width, addr); gotHop != hop || gotE != e {
		t.Errorf("P5: Find(%.60q, %d, %d) = %d, %d, want %d, %d", text, width, addr, gotHop, gotE, hop, e)
	}
}

func TestFindExamples(t *testing.T) {
	wantFindIs(t, "* 3\n1 2\n101 9\n", 4, 10, 9, fib.OK)
	wantFindIs(t, "* 3\n1 2\n101 9\n", 4, 12, 2, fib.OK)
	wantFindIs(t, "* 3\n1 2\n101 9\n", 4, 5, 3, fib.OK)
	wantFindIs(t, "1 2\n", 4, 5, 0, fib.OK)
	wantFindIs(t, "", 4, 16, 0, fib.ErrArg)
}

func TestFindAddresses(t *testing.T) {
	for width := 1; width <= 12; width++ {
		last := 1<<width - 1
		text := strings.Repeat("0", width) + " 1\n* 3\n" + strings.Repeat("1", width) + " 2\n"
		wantFindIs(t, text, width, 0, 1, fib.OK)
		wantFindIs(t, text, width, last, 2, fib.OK)
		if width > 1 {
			wantFindIs(t, text, width, 1, 3, fib.OK)
			wantFindIs(t, text, width, last-1, 3, fib.OK)
		}
		for _, addr := range []int{minInt, minInt + last, -last - 1, -last, -1, last + 1, last + 2, 2*last + 1, maxInt} {
			wantFindIs(t, text, width, addr, 0, fib.ErrArg)
			wantFindIs(t, "", width, addr, 0, fib.ErrArg)
		}
	}
}

func TestFindSameBits(t *testing.T) {
	wantFindIs(t, "01 7\n01 8\n", 2, 1, 8, fib.OK)
	wantFindIs(t, "01 8\n* 1\n01 7\n0 2\n", 2, 1, 7, fib.OK)
	wantFindIs(t, "* 8\n* 7\n", 2, 3, 7, fib.OK)
}

// The order of the lines does not matter for routes of unlike lengths.
func TestFindMostBits(t *testing.T) {
	for _, text := range []string{"* 1\n1 2\n10 3\n", "10 3\n1 2\n* 1\n", "1 2\n10 3\n* 1\n"} {
		wantFindIs(t, text, 3, 3, 1, fib.OK)
		wantFindIs(t, text, 3, 4, 3, fib.OK)
		wantFindIs(t, text, 3, 5, 3, fib.OK)
		wantFindIs(t, text, 3, 6, 2, fib.OK)
	}
}

func TestFindErrors(t *testing.T) {
	many := strings.Repeat("* 1\n", 25)
	wantFindIs(t, strings.Repeat("x", 401), 0, -1, 0, fib.ErrLong)
	wantFindIs(t, longTable(401), 12, 0, 0, fib.ErrLong)
	wantFindIs(t, longTable(400), 12, 0, 250, fib.OK)
	wantFindIs(t, "x", 0, 0, 0, fib.ErrArg)
	wantFindIs(t, "", 13, 0, 0, fib.ErrArg)
	wantFindIs(t, "", maxInt, 0, 0, fib.ErrArg)
	wantFindIs(t, "x", 4, 16, 0, fib.ErrSyntax)
	wantFindIs(t, "* 1", 4, 0, 0, fib.ErrSyntax)
	wantFindIs(t, many+"x", 4, -1, 0, fib.ErrSyntax)
	wantFindIs(t, many, 4, -1, 0, fib.ErrMany)
	wantFindIs(t, many, 4, 0, 0, fib.ErrMany)
	wantFindIs(t, "* 1\n", 4, -1, 0, fib.ErrArg)
}

func TestFindThrownTables(t *testing.T) {
	d := &dice{state: 5}
	for i := 0; i < 600; i++ {
		width := 1 + d.below(12)
		text := d.table(d.below(27), 1+d.below(width))
		if d.below(8) == 0 {
			text = d.spoil(text)
		}
		for addr := -1; addr <= 1<<width; addr += 1 + d.below(1+1<<width/32) {
			hop, e := wantFind(text, width, addr)
			wantFindIs(t, text, width, addr, hop, e)
		}
	}
}
