package fib_test

import (
	"fmt"
	"strings"
	"testing"
	"time"

	"fibimage/fib"
)

func TestErrnos(t *testing.T) {
	errnos := [7]fib.Errno{fib.OK, fib.ErrLong, fib.ErrArg, fib.ErrSyntax, fib.ErrMany, fib.ErrSize, fib.ErrImage}
	for i, e := range errnos {
		if e != fib.Errno(i) {
			t.Errorf("error %d is %d", i, e)
		}
	}
}

// wildTexts are tables, and texts that are none or more than one fault.
func wildTexts() []string {
	texts := []string{
		"", "\n", "*", "* ", "* 1", "* 1\n", "0 1\n1 2\n", "0 0\n", "x", "\x00", "\xff\xfe",
		"* 99999999999999999999999999\n", "FI", "FI\x04\x00\x00\x0a\x00\x07\x01\x7c",
		"000000000000 2\n111111111111 1\n", longTable(400), longTable(401),
		strings.Repeat("* 1\n", 24), strings.Repeat("* 1\n", 25), strings.Repeat("* 1\n", 101),
		strings.Repeat("1", 400), strings.Repeat("*", 401), strings.Repeat("\n", 70000),
		twoDeep, twoDeep[1:], twoDeep + "x", image(12, 12, nodeMark+2, chain(12)),
	}
	d := &dice{state: 1}
	for i := 0; i < 40; i++ {
		texts = append(texts, d.spoil(d.table(d.below(26), 12)))
	}
	for i := 0; i < 10; i++ {
		texts = append(texts, d.image(1+d.below(12)))
		texts = append(texts, sealed(d.spoil(d.image(1+d.below(12)))))
	}
	return texts
}

var wildNumbers = []int{minInt, minInt + 1, -4096, -13, -1, 0, 1, 2, 11, 12, 13, 31, 32, 63, 64, 65, 4095, 4096, 1 << 20, maxInt - 1, maxInt}

// answersOf writes what the calls answer, all in one text; the number is an
// address, a depth and a place as well.
func answersOf(text string, width int, number int) string {
	e, place := fib.Check(text, width)
	print, printE := fib.Print(text, width)
	hop, hopE := fib.Find(text, width, number)
	cost, costE := fib.Cost(text, width, number)
	tables := fmt.Sprintf("%d %d, %q %d, %d %d, %d %d", e, place, print, printE, hop, hopE, cost, costE)
	compiled, compiledE := fib.Compile(text, width, number, maxInt)
	short, shortE := fib.Compile(text, width, number, 10+number)
	tables += fmt.Sprintf(", %x %d, %x %d", compiled, compiledE, short, shortE)
	walked, nodes, walkedE := fib.Lookup(text, 0, number)
	behind, behindNodes, behindE := fib.Lookup("ab"+text, 2, width)
	images := fmt.Sprintf("%d, %d %d %d, %d %d %d", fib.Load(text), walked, nodes, walkedE, behind, behindNodes, behindE)
	return tables + ", " + images
}

func TestWildArguments(t *testing.T) {
	for _, text := range wildTexts() {
		fib.Load(text)
		for _, a := range wildNumbers {
			for _, b := range wildNumbers {
				wantErrorAlone(t, text, a, b)
				wantCostOrError(t, text, a, b)
				wantWalkOrError(t, text, a, b)
				wantCompiledOrError(t, text, a, b)
			}
		}
	}
}

// wantErrorAlone: beside an error the other results are nothing, but for
// Check's place, which stands beside ErrSyntax alone; and the calls agree.
func wantErrorAlone(t *testing.T, text string, width int, addr int) {
	t.Helper()
	e, place := fib.Check(text, width)
	if e != fib.ErrSyntax && place != 0 || place < 0 || place > len(text) {
		t.Errorf("P1: Check(%.60q, %d) = %d, %d", text, width, e, place)
	}
	print, printE := fib.Print(text, width)
	if printE != e || e != fib.OK && print != "" {
		t.Errorf("P1: Print(%.60q, %d) = %q, %d beside Check's %d", text, width, print, printE, e)
	}
	hop, hopE := fib.Find(text, width, addr)
	if e != fib.OK && hopE != e || hopE != fib.OK && hop != 0 {
		t.Errorf("P1: Find(%.60q, %d, %d) = %d, %d beside Check's %d", text, width, addr, hop, hopE, e)
	}
}

func wantCostOrError(t *testing.T, text string, width int, depth int) {
	t.Helper()
	checkE, _ := fib.Check(text, width)
	cost, e := fib.Cost(text, width, depth)
	isDepth := depth >= 1 && depth <= width
	if e != checkE && (isDepth || e != fib.ErrArg || checkE == fib.ErrLong) || e != fib.OK && cost != 0 {
		t.Errorf("P1: Cost(%.60q, %d, %d) = %d, %d beside Check's %d", text, width, depth, cost, e, checkE)
	}
}

// wantCompiledOrError: of the errors that Cost does not know there is but one,
// and it stands behind them all.
func wantCompiledOrError(t *testing.T, text string, width int, depth int) {
	t.Helper()
	_, costE := fib.Cost(text, width, depth)
	limits := []int{maxInt}
	if costE == fib.OK {
		limits = wildNumbers
	}
	for _, limit := range limits {
		image, e := fib.Compile(text, width, depth, limit)
		if costE != fib.OK && e != costE || costE == fib.OK && e != fib.OK && e != fib.ErrSize {
			t.Errorf("P1: Compile(%.60q, %d, %d, %d): error %d beside Cost's %d", text, width, depth, limit, e, costE)
		}
		if (image == "") != (e != fib.OK) || e == fib.OK && len(image) > limit {
			t.Errorf("P1: Compile(%.60q, %d, %d, %d) = %.60x, %d", text, width, depth, limit, image, e)
		}
	}
}

func wantWalkOrError(t *testing.T, text string, from int, addr int) {
	t.Helper()
	hop, nodes, e := fib.Lookup(text, from, addr)
	if (from < 0 || from > len(text)) && e != fib.ErrArg || e != fib.OK && (hop != 0 || nodes != 0) {
		t.Errorf("P1: Lookup(%.60q, %d, %d) = %d, %d, %d", text, from, addr, hop, nodes, e)
	}
	if hop < 0 || hop > 250 || nodes < 0 || nodes > maxWidth || e != fib.OK && e != fib.ErrArg && e != fib.ErrImage {
		t.Errorf("P9: Lookup(%.60q, %d, %d) = %d, %d, %d", text, from, addr, hop, nodes, e)
	}
}

// An image among many bytes takes no longer than one alone, and bytes that are
// too many for an image are not summed up.
func TestLongBytesByLength(t *testing.T) {
	bytes := twoDeep + strings.Repeat(twoDeep, 1<<20)
	begin := time.Now()
	for i := 0; i < 2000; i++ {
		if e := fib.Load(bytes); e != fib.ErrImage {
			t.Fatalf("P8: Load of many bytes: %d", e)
		}
		from := len(twoDeep) * i
		hop, nodes, e := fib.Lookup(bytes, from, 3)
		if hop != 9 || nodes != 2 || e != fib.OK {
			t.Fatalf("P9: Lookup in many bytes, from %d: %d, %d, %d", from, hop, nodes, e)
		}
		if time.Since(begin) > 20*time.Second {
			t.Fatalf("P1: many bytes are gone through: %d calls in %v", 2*i, time.Since(begin))
		}
	}
}

// A call that went through these texts would take minutes for all of them.
func TestLongTextsByLength(t *testing.T) {
	text := strings.Repeat("* 1\n", 1<<24)
	begin := time.Now()
	for i := 0; i < 2000; i++ {
		e, place := fib.Check(text, i%15)
		print, printE := fib.Print(text, i%15)
		hop, hopE := fib.Find(text, i%15, i)
		if e != fib.ErrLong || place != 0 || printE != fib.ErrLong || print != "" || hopE != fib.ErrLong || hop != 0 {
			t.Fatalf("P1: of a long text: %d, %d; %q, %d; %d, %d", e, place, print, printE, hop, hopE)
		}
		if cost, costE := fib.Cost(text, i%15, i%13); cost != 0 || costE != fib.ErrLong {
			t.Fatalf("P1: Cost of a long text: %d, %d", cost, costE)
		}
		if image, imageE := fib.Compile(text, i%15, i%13, i-1000); image != "" || imageE != fib.ErrLong {
			t.Fatalf("P1: Compile of a long text: %x, %d", image, imageE)
		}
		if time.Since(begin) > 20*time.Second {
			t.Fatalf("P1: long texts are gone through: %d calls in %v", 5*i, time.Since(begin))
		}
	}
}

// The same arguments have the same answers, whatever was asked in between.
func TestNothingIsKept(t *testing.T) {
	texts := wildTexts()
	asked := func(i int) string {
		return answersOf(texts[i%len(texts)], 1+i%12, i%40)
	}
	count := 12 * len(texts)
	first := make([]string, count)
	for i := 0; i < count; i++ {
		first[i] = asked(i)
	}
	d := &dice{state: 2}
	for n := 0; n < 4*count; n++ {
		i := d.below(count)
		if again := asked(i); again != first[i] {
			t.Fatalf("P2: asked again for %.60q: %s, first %s", texts[i%len(texts)], again, first[i])
		}
	}
	for i := count - 1; i >= 0; i-- {
		if again := asked(i); again != first[i] {
			t.Fatalf("P2: asked backwards for %.60q: %s, first %s", texts[i%len(texts)], again, first[i])
		}
	}
}
