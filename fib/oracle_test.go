package fib_test

import (
	"fmt"
	"regexp"
	"sort"
	"strconv"
	"strings"

	"fibimage/fib"
)

// What the document says, written a second time by other means than the
// program's, so that the two can be held against each other.

const (
	maxText   = 400
	maxRoutes = 24
	maxWidth  = 12
	maxInt    = int(^uint(0) >> 1)
	minInt    = -maxInt - 1
)

var tableForms = makeTableForms()

func makeTableForms() [maxWidth + 1]*regexp.Regexp {
	var forms [maxWidth + 1]*regexp.Regexp
	hop := `(?:[1-9]|[1-9][0-9]|1[0-9][0-9]|2[0-4][0-9]|250)`
	for w := 1; w <= maxWidth; w++ {
		forms[w] = regexp.MustCompile(fmt.Sprintf(`\A(?:(?:\*|[01]{1,%d}) %s\n)*\z`, w, hop))
	}
	return forms
}

func isTable(text string, width int) bool {
	return tableForms[width].MatchString(text)
}

// goesOn tells whether some table begins with the text: what a line lacks at
// any place within it is one of these ends.
func goesOn(text string, width int) bool {
	for _, end := range []string{"", "\n", "1\n", " 1\n"} {
		if isTable(text+end, width) {
			return true
		}
	}
	return false
}

func wantCheck(text string, width int) (fib.Errno, int) {
	if len(text) > maxText {
		return fib.ErrLong, 0
	}
	if width < 1 || width > maxWidth {
		return fib.ErrArg, 0
	}
	if !isTable(text, width) {
		place := 0
		for place < len(text) && goesOn(text[:place+1], width) {
			place++
		}
		return fib.ErrSyntax, place
	}
	if strings.Count(text, "\n") > maxRoutes {
		return fib.ErrMany, 0
	}
	return fib.OK, 0
}

// hopsByBits is for tables alone.
func hopsByBits(text string) map[string]int {
	hops := map[string]int{}
	for _, line := range strings.Split(strings.TrimSuffix(text, "\n"), "\n") {
		if line == "" {
			continue
		}
		bits, hop, _ := strings.Cut(line, " ")
		hops[bits], _ = strconv.Atoi(hop)
	}
	return hops
}

func wantPrint(text string, width int) (string, fib.Errno) {
	if e, _ := wantCheck(text, width); e != fib.OK {
		return "", e
	}
	lines := []string{}
	for bits, hop := range hopsByBits(text) {
		lines = append(lines, fmt.Sprintf("%s %d\n", bits, hop))
	}
	// The blank is below `*`, and `*` below the digits: whole lines have the order
	// of their bits.
	sort.Strings(lines)
	return strings.Join(lines, ""), fib.OK
}

func wantFind(text string, width int, addr int) (int, fib.Errno) {
	if e, _ := wantCheck(text, width); e != fib.OK {
		return 0, e
	}
	digits := fmt.Sprintf("%0*b", width, addr)
	if addr < 0 || len(digits) > width {
		return 0, fib.ErrArg
	}
	return longestFit(hopsByBits(text), digits), fib.OK
}

func longestFit(hops map[string]int, digits string) int {
	for n := len(digits); n > 0; n-- {
		if hop := hops[digits[:n]]; hop != 0 {
			return hop
		}
	}
	return hops["*"]
}

// wantHops is for tables alone: the hop of each address.
func wantHops(text string, width int) []int {
	hops := hopsByBits(text)
	all := []int{}
	for addr := range 1 << width {
		all = append(all, longestFit(hops, fmt.Sprintf("%0*b", width, addr)))
	}
	return all
}

// tree has the height of each node, and the costs that are known so far.
type tree struct {
	heights map[string]int
	costs   map[string]int
}

func (tr tree) cost(bits string, depth int) int {
	key := fmt.Sprint(bits, "/", depth)
	if known, ok := tr.costs[key]; ok {
		return known
	}
	least := maxInt
	for stride := 1; stride <= tr.heights[bits]; stride++ {
		cost := 1 << stride
		for node := range tr.heights {
			if len(node) != len(bits)+stride || !strings.HasPrefix(node, bits) {
				continue
			}
			if depth == 1 {
				cost = maxInt
				break
			}
			cost += tr.cost(node, depth-1)
		}
		least = min(least, cost)
	}
	tr.costs[key] = least
	return least
}

func wantCost(text string, width int, depth int) (int, fib.Errno) {
	if len(text) > maxText {
		return 0, fib.ErrLong
	}
	if depth < 1 || depth > width {
		return 0, fib.ErrArg
	}
	if e, _ := wantCheck(text, width); e != fib.OK {
		return 0, e
	}
	tr := tree{heights: map[string]int{}, costs: map[string]int{}}
	for bits := range hopsByBits(text) {
		for n := 0; n < len(bits) && bits != "*"; n++ {
			tr.heights[bits[:n]] = max(tr.heights[bits[:n]], len(bits)-n)
		}
	}
	if len(tr.heights) == 0 {
		return 0, fib.OK
	}
	return tr.cost("", depth), fib.OK
}

// dice throws the same numbers in every run.
type dice struct{ state uint64 }

func (d *dice) below(n int) int {
	d.state = d.state*6364136223846793005 + 1442695040888963407
	return int((d.state >> 33) % uint64(n))
}

// table throws a table of so many lines; few bits, so that lines meet.
func (d *dice) table(lines int, width int) string {
	text := ""
	for i := 0; i < lines; i++ {
		bits := ""
		for n := d.below(width + 1); n > 0; n-- {
			bits += string(rune('0' + d.below(2)))
		}
		if bits == "" {
			bits = "*"
		}
		text += fmt.Sprintf("%s %d\n", bits, 1+d.below(250))
	}
	return text
}

// spoil changes, drops or adds one byte.
func (d *dice) spoil(text string) string {
	const bytes = "*01 \n259x\r\t\x00\xff-+"
	at := d.below(len(text) + 1)
	thrown := string(bytes[d.below(len(bytes))])
	switch d.below(3) {
	case 0:
		return text[:at] + thrown + text[at:]
	case 1:
		return text[:at]
	}
	if at == len(text) {
		return text
	}
	return text[:at] + thrown + text[at+1:]
}
