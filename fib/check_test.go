package fib_test

import (
	"strconv"
	"strings"
	"testing"

	"fibimage/fib"
)

func wantCheckIs(t *testing.T, text string, width int, e fib.Errno, place int) {
	t.Helper()
	if gotE, gotPlace := fib.Check(text, width); gotE != e || gotPlace != place {
		t.Errorf("P3: Check(%.60q, %d) = %d, %d, want %d, %d", text, width, gotE, gotPlace, e, place)
	}
}

func TestCheckExamples(t *testing.T) {
	wantCheckIs(t, "* 7\n01 9\n", 4, fib.OK, 0)
	wantCheckIs(t, "01 7\n2 8\n", 4, fib.ErrSyntax, 5)
	wantCheckIs(t, "01", 4, fib.ErrSyntax, 2)
	wantCheckIs(t, "0101 1\n", 3, fib.ErrSyntax, 3)
	wantCheckIs(t, "* 251\n", 4, fib.ErrSyntax, 4)
	wantCheckIs(t, "* 0\n", 4, fib.ErrSyntax, 2)
	wantCheckIs(t, "", 0, fib.ErrArg, 0)
}

func TestCheckWidths(t *testing.T) {
	for _, width := range []int{minInt, -1, 0, 13, 64, 1 << 20, maxInt} {
		wantCheckIs(t, "", width, fib.ErrArg, 0)
		wantCheckIs(t, "* 1\n", width, fib.ErrArg, 0)
	}
	for width := 1; width <= 12; width++ {
		wantCheckIs(t, "", width, fib.OK, 0)
		for n := 1; n <= 14; n++ {
			text := "* 1\n" + strings.Repeat("1", n) + " 9\n"
			if n <= width {
				wantCheckIs(t, text, width, fib.OK, 0)
			} else {
				wantCheckIs(t, text, width, fib.ErrSyntax, 4+width)
			}
		}
	}
}

func TestCheckHops(t *testing.T) {
	for hop := 0; hop <= 3000; hop++ {
		digits := strconv.Itoa(hop)
		text := "01 " + digits + "\n"
		switch {
		case hop == 0:
			wantCheckIs(t, text, 2, fib.ErrSyntax, 3)
		case hop <= 250:
			wantCheckIs(t, text, 2, fib.OK, 0)
			wantCheckIs(t, text[:len(text)-1], 2, fib.ErrSyntax, len(text)-1)
			wantCheckIs(t, "01 0"+digits+"\n", 2, fib.ErrSyntax, 3)
		case hop <= 999 || digits[:3] <= "250":
			wantCheckIs(t, text, 2, fib.ErrSyntax, 3+len(digits)-1)
		default:
			wantCheckIs(t, text, 2, fib.ErrSyntax, 5)
		}
	}
	wantCheckIs(t, "01 "+strings.Repeat("9", 300)+"\n", 2, fib.ErrSyntax, 5)
	for _, hop := range []string{"+1", "-1", "x", "", " 1", "\xb1", "\x00"} {
		wantCheckIs(t, "01 "+hop+"\n", 2, fib.ErrSyntax, 3)
	}
}

func TestCheckRoutes(t *testing.T) {
	for lines := 0; lines <= 100; lines++ {
		text := strings.Repeat("* 1\n", lines)
		if lines <= 24 {
			wantCheckIs(t, text, 3, fib.OK, 0)
		} else {
			wantCheckIs(t, text, 3, fib.ErrMany, 0)
		}
	}
	wantCheckIs(t, strings.Repeat("* 1\n", 24)+"*", 3, fib.ErrSyntax, 97)
	wantCheckIs(t, strings.Repeat("* 1\n", 24)+"* 1\n\n", 3, fib.ErrSyntax, 100)
}

// longTable has 24 lines of this many bytes in all, 399 to 401.
func longTable(length int) string {
	text := strings.Repeat("000000000000 250\n", 23)
	return text + strings.Repeat("1", length-len(text)-3) + " 1\n"
}

func TestCheckLengths(t *testing.T) {
	wantCheckIs(t, longTable(399), 12, fib.OK, 0)
	wantCheckIs(t, longTable(400), 12, fib.OK, 0)
	wantCheckIs(t, longTable(401), 12, fib.ErrLong, 0)
	wantCheckIs(t, longTable(401)[:400], 12, fib.ErrSyntax, 400)
	wantCheckIs(t, longTable(400), 11, fib.ErrSyntax, 11)
	wantCheckIs(t, longTable(399)+"x", 12, fib.ErrSyntax, 399)
	wantCheckIs(t, strings.Repeat("\u00e9", 200), 12, fib.ErrSyntax, 0)
	wantCheckIs(t, strings.Repeat("\u00e9", 201), 12, fib.ErrLong, 0)
}

func TestCheckSeveralErrors(t *testing.T) {
	long := strings.Repeat("* 1\n", 101)
	many := strings.Repeat("* 1\n", 25)
	wantCheckIs(t, long, 4, fib.ErrLong, 0)
	wantCheckIs(t, long, 0, fib.ErrLong, 0)
	wantCheckIs(t, long+"x", 13, fib.ErrLong, 0)
	wantCheckIs(t, "x", 13, fib.ErrArg, 0)
	wantCheckIs(t, many+"x", 0, fib.ErrArg, 0)
	wantCheckIs(t, many, -1, fib.ErrArg, 0)
	wantCheckIs(t, many+"x", 4, fib.ErrSyntax, 100)
	wantCheckIs(t, many+"* 1", 4, fib.ErrSyntax, 103)
}

// Each text that a table begins with, cut at every place.
func TestCheckCutTexts(t *testing.T) {
	text := "0110 250\n* 7\n1 19\n"
	ends := map[int]bool{0: true, 9: true, 13: true, len(text): true}
	for n := 0; n <= len(text); n++ {
		if ends[n] {
			wantCheckIs(t, text[:n], 4, fib.OK, 0)
		} else {
			wantCheckIs(t, text[:n], 4, fib.ErrSyntax, n)
		}
	}
}

// Every byte at every place of a line: what the table's form refuses, and no
// more.
func TestCheckEveryByte(t *testing.T) {
	text := "* 9\n010 24\n11 3\n"
	for at := 0; at < len(text); at++ {
		for b := 0; b < 256; b++ {
			changed := text[:at] + string([]byte{byte(b)}) + text[at+1:]
			e, place := wantCheck(changed, 3)
			wantCheckIs(t, changed, 3, e, place)
		}
	}
}

func TestCheckShortTexts(t *testing.T) {
	const bytes = "*01 \n5x"
	texts := []string{""}
	for n := 0; n <= 5; n++ {
		longer := []string{}
		for _, text := range texts {
			for _, width := range []int{1, 2} {
				e, place := wantCheck(text, width)
				wantCheckIs(t, text, width, e, place)
			}
			for _, b := range bytes {
				longer = append(longer, text+string(b))
			}
		}
		texts = longer
	}
}

func TestCheckThrownTexts(t *testing.T) {
	d := &dice{state: 3}
	for i := 0; i < 4000; i++ {
		width := 1 + d.below(12)
		text := d.table(d.below(30), width)
		for spoils := d.below(3); spoils > 0; spoils-- {
			text = d.spoil(text)
		}
		e, place := wantCheck(text, width)
		wantCheckIs(t, text, width, e, place)
	}
}
