package fib_test

import (
	"strings"
	"testing"

	"fibimage/fib"
)

func wantPrintIs(t *testing.T, text string, width int, print string, e fib.Errno) {
	t.Helper()
	if gotPrint, gotE := fib.Print(text, width); gotPrint != print || gotE != e {
		t.Errorf("P4: Print(%.60q, %d) = %q, %d, want %q, %d", text, width, gotPrint, gotE, print, e)
	}
}

func TestPrintExamples(t *testing.T) {
	wantPrintIs(t, "1 2\n0 1\n* 3\n1 4\n", 4, "* 3\n0 1\n1 4\n", fib.OK)
	wantPrintIs(t, "1 4\n01 3\n00 2\n0 1\n", 2, "0 1\n00 2\n01 3\n1 4\n", fib.OK)
}

func TestPrintEdges(t *testing.T) {
	wantPrintIs(t, "", 1, "", fib.OK)
	wantPrintIs(t, "* 250\n", 1, "* 250\n", fib.OK)
	wantPrintIs(t, "1 1\n0 250\n", 1, "0 250\n1 1\n", fib.OK)
	wantPrintIs(t, "111111111111 9\n00000000000 10\n000000000000 100\n", 12,
		"00000000000 10\n000000000000 100\n111111111111 9\n", fib.OK)
}

func TestPrintSameBits(t *testing.T) {
	wantPrintIs(t, "* 1\n* 2\n", 4, "* 2\n", fib.OK)
	wantPrintIs(t, "* 9\n* 2\n* 9\n", 4, "* 9\n", fib.OK)
	wantPrintIs(t, "01 7\n1 3\n01 8\n0 2\n01 6\n1 4\n", 4, "0 2\n01 6\n1 4\n", fib.OK)
	wantPrintIs(t, strings.Repeat("10 3\n", 23)+"10 1\n", 4, "10 1\n", fib.OK)
}

func TestPrintErrors(t *testing.T) {
	wantPrintIs(t, strings.Repeat("* 1\n", 101), 0, "", fib.ErrLong)
	wantPrintIs(t, longTable(401), 12, "", fib.ErrLong)
	wantPrintIs(t, "x", 0, "", fib.ErrArg)
	wantPrintIs(t, "* 1\n", 13, "", fib.ErrArg)
	wantPrintIs(t, "* 1\n* 2\nx", 4, "", fib.ErrSyntax)
	wantPrintIs(t, "* 1\n* 2", 4, "", fib.ErrSyntax)
	wantPrintIs(t, "1 1\n00 1\n", 1, "", fib.ErrSyntax)
	wantPrintIs(t, strings.Repeat("* 1\n", 25)+"x", 4, "", fib.ErrSyntax)
	wantPrintIs(t, strings.Repeat("* 1\n", 25), 4, "", fib.ErrMany)
}

func TestPrintThrownTables(t *testing.T) {
	d := &dice{state: 4}
	for i := 0; i < 4000; i++ {
		width := 1 + d.below(12)
		text := d.table(d.below(27), 1+d.below(width))
		if d.below(8) == 0 {
			text = d.spoil(text)
		}
		print, e := wantPrint(text, width)
		wantPrintIs(t, text, width, print, e)
		if e == fib.OK {
			wantPrintIs(t, print, width, print, fib.OK)
		}
	}
}
