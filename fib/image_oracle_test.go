package fib_test

import (
	"encoding/binary"
	"encoding/hex"
	"fmt"
	"strconv"
	"strings"
	"testing"

	"fibimage/fib"
)

// Images for the tests, and what the document says of them, written by other
// means than the program's: an image is good if the walk of each address is,
// for there is no entry that no address comes to.

const nodeMark = 1000

func u16(n int) string {
	return string(binary.BigEndian.AppendUint16(nil, uint16(n)))
}

// entries are the bytes of these entries.
func entries(numbers ...int) string {
	text := ""
	for _, n := range numbers {
		text += u16(n)
	}
	return text
}

func wantSum(body string) int {
	sum := uint64(0)
	for i := range len(body) {
		sum += uint64(i+1) * (uint64(body[i]) + 1)
	}
	return int(sum % 65521)
}

func sealed(body string) string {
	return body + u16(wantSum(body))
}

// image puts the first entry and what stands behind it into an image that has
// its length and its sum.
func image(width int, depth int, first int, rest string) string {
	head := "FI" + string([]byte{byte(width), byte(depth)})
	return sealed(head + u16(len(rest)+10) + u16(first) + rest)
}

// resealed is for an image of which bytes were changed: its sum is made to fit.
func resealed(image string) string {
	return sealed(image[:len(image)-2])
}

func fromHex(t *testing.T, digits string) string {
	t.Helper()
	bytes, err := hex.DecodeString(strings.ReplaceAll(digits, " ", ""))
	if err != nil {
		t.Fatal(err)
	}
	return string(bytes)
}

// oracle keeps the slots of the nodes that it has come to.
type oracle struct {
	body  string
	slots map[int][]int
}

// slotsAt answers the place of each slot's entry; nil, if there is no node.
func (o oracle) slotsAt(at int) []int {
	if known, ok := o.slots[at]; ok {
		return known
	}
	places := o.readSlots(at)
	o.slots[at] = places
	return places
}

func (o oracle) readSlots(at int) []int {
	if at >= len(o.body) || o.body[at] < 1 || o.body[at] > maxWidth {
		return nil
	}
	size := 1 << o.body[at]
	next := at + 1 + max(1, size/8)
	if next > len(o.body) || o.body[at+1]%2 == 0 {
		return nil
	}
	digits := ""
	for _, b := range []byte(o.body[at+1 : next]) {
		for range 8 {
			digits += strconv.Itoa(int(b % 2))
			b /= 2
		}
	}
	if strings.Contains(digits[size:], "1") {
		return nil
	}
	places := []int{}
	for _, digit := range digits[:size] {
		if digit == '1' {
			next += 2
		}
		places = append(places, next-2)
	}
	if next > len(o.body) {
		return nil
	}
	return places
}

// walk is false where it comes to something that is not good.
func (o oracle) walk(depth int, digits string) (int, int, bool) {
	at := 6
	for nodes := 0; nodes <= depth; nodes++ {
		entry := int(binary.BigEndian.Uint16([]byte(o.body[at:])))
		if entry <= 250 {
			return entry, nodes, true
		}
		if entry < nodeMark+2 {
			return 0, 0, false
		}
		node := at + entry - nodeMark
		places := o.slotsAt(node)
		if places == nil || int(o.body[node]) > len(digits) {
			return 0, 0, false
		}
		slot, _ := strconv.ParseInt(digits[:o.body[node]], 2, 64)
		digits = digits[o.body[node]:]
		at = places[slot]
	}
	return 0, 0, false
}

// wantWalks answers the hop and the count of nodes of each address; nil, if
// the image is not good.
func wantWalks(image string) [][2]int {
	if len(image) < 10 || image[:2] != "FI" || image[4:6] != u16(len(image)) || len(image) > 65535 {
		return nil
	}
	width, depth := int(image[2]), int(image[3])
	if width < 1 || width > maxWidth || depth > width || resealed(image) != image {
		return nil
	}
	o := oracle{body: image[:len(image)-2], slots: map[int][]int{}}
	walks := [][2]int{}
	for addr := range 1 << width {
		hop, nodes, ok := o.walk(depth, fmt.Sprintf("%0*b", width, addr))
		if !ok {
			return nil
		}
		walks = append(walks, [2]int{hop, nodes})
	}
	return walks
}

// wantSlots is for a good image: its slots, as they are counted by P7.
func wantSlots(image string) int {
	o := oracle{body: image[:len(image)-2], slots: map[int][]int{}}
	return o.countSlots(6)
}

func (o oracle) countSlots(at int) int {
	entry := int(binary.BigEndian.Uint16([]byte(o.body[at:])))
	if entry <= 250 {
		return 0
	}
	places := o.slotsAt(at + entry - nodeMark)
	count := len(places)
	for _, place := range places {
		count += o.countSlots(place)
	}
	return count
}

// wantImageIs holds Load, and Lookup of all addresses, against the oracle, and
// tells whether the image is good.
func wantImageIs(t *testing.T, image string) bool {
	t.Helper()
	walks := wantWalks(image)
	if walks == nil {
		wantLoadIs(t, image, fib.ErrImage)
		wantLookupIs(t, image, 0, 0, 0, 0, fib.ErrImage)
		return false
	}
	wantLoadIs(t, image, fib.OK)
	for addr, walk := range walks {
		wantLookupIs(t, image, 0, addr, walk[0], walk[1], fib.OK)
	}
	wantLookupIs(t, image, 0, len(walks), 0, 0, fib.ErrArg)
	return true
}

// owed is an entry that is not written yet.
type owed struct{ at, bits, nodes int }

// image throws an image in which nodes are shared now and then, and may lie
// apart from each other. Most are good.
func (d *dice) image(width int) string {
	depth := d.below(width + 1)
	bytes := []byte{'F', 'I', byte(width), byte(depth), 0, 0, 0, 0}
	starts := []int{}
	for queue := []owed{{6, width, depth}}; len(queue) > 0; queue = queue[1:] {
		o := queue[0]
		if o.bits == 0 || o.nodes == 0 || d.below(5) == 0 {
			binary.BigEndian.PutUint16(bytes[o.at:], uint16(d.below(251)))
			continue
		}
		if len(starts) > 0 && d.below(4) == 0 {
			shared := starts[d.below(len(starts))]
			if shared >= o.at+2 {
				binary.BigEndian.PutUint16(bytes[o.at:], uint16(nodeMark+shared-o.at))
				continue
			}
		}
		for range d.below(3) {
			bytes = append(bytes, byte(d.below(256)))
		}
		stride := 1 + d.below(min(o.bits, 1+d.below(4)))
		binary.BigEndian.PutUint16(bytes[o.at:], uint16(nodeMark+len(bytes)-o.at))
		starts = append(starts, len(bytes))
		node, runs := d.node(stride)
		first := len(bytes) + len(node) - 2*runs
		bytes = append(bytes, node...)
		for i := range runs {
			queue = append(queue, owed{first + 2*i, o.bits - stride, o.nodes - 1})
		}
	}
	binary.BigEndian.PutUint16(bytes[4:], uint16(len(bytes)+2))
	return sealed(string(bytes))
}

// node throws a node with empty entries, and tells how many they are.
func (d *dice) node(stride int) ([]byte, int) {
	size := 1 << stride
	node := make([]byte, 1+(size+7)/8)
	node[0] = byte(stride)
	runs := 0
	for j := range size {
		if j == 0 || d.below(3) == 0 {
			node[1+j/8] |= 1 << (j % 8)
			runs++
		}
	}
	return append(node, make([]byte, 2*runs)...), runs
}
