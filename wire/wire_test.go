package wire

import (
	"bytes"
	"encoding/binary"
	"fmt"
	"slices"
	"strings"
	"testing"

	"fuller/api"
	"fuller/graph"
	"fuller/sample"
)

const (
	least = sample.Least
	most  = sample.Most
)

var of, with, input, param, number, graphOf, line = sample.Node, sample.With, sample.Input, sample.Param, sample.Number, sample.Graph, sample.Line

// raw is what would be the bytes of l, by the library, whether l may be or not.
func raw(l []api.Node) []byte {
	b := []byte{byte(len(l))}
	for _, n := range l {
		b = append(b, byte(n.Op), byte(len(n.Args)))
		for _, arg := range n.Args {
			b = append(b, byte(arg))
		}
		b = append(b, byte(len(n.Nums)))
		for _, num := range n.Nums {
			b = binary.BigEndian.AppendUint64(b, uint64(num))
		}
	}
	return b
}

// isByte tells whether n has a byte.
func isByte(n int) bool {
	return 0 <= n && n <= 255
}

// hasBytes tells whether all that l is made of has bytes, whether l may be or not.
func hasBytes(l []api.Node) bool {
	for _, n := range l {
		if !isByte(n.Op) || !isByte(len(n.Args)) || !isByte(len(n.Nums)) || slices.ContainsFunc(n.Args, func(arg int) bool { return !isByte(arg) }) {
			return false
		}
	}
	return isByte(len(l))
}

// nodesOf are the nodes of which b are the bytes, and whether there are such that may be a graph: by the words of the chapter.
func nodesOf(b []byte) ([]api.Node, bool) {
	short := false
	take := func(size int) int {
		if len(b) < size {
			short, b = true, nil
			return 0
		}
		n := uint64(0)
		for _, digit := range b[:size] {
			n = n*256 + uint64(digit)
		}
		b = b[size:]
		return int(n)
	}
	list := func(size int) []int {
		var l []int
		for range take(1) {
			l = append(l, take(size))
		}
		return l
	}
	var l []api.Node
	for range take(1) {
		n := of(take(1))
		n.Args = list(1)
		n.Nums = list(8)
		l = append(l, n)
	}
	return l, !short && len(b) == 0 && graph.Check(l)
}

// every is a graph with a node of each op, behind others.
func every() []api.Node {
	l := sample.Three()
	for _, ops := range sample.Ops() {
		for _, op := range ops {
			l = append(l, sample.RightNode(op))
		}
	}
	return l
}

// some are graphs short and long, at the ends of what may be.
func some() [][]api.Node {
	return [][]api.Node{
		graphOf(input()), graphOf(param(0)), graphOf(number(258)), graphOf(input(4, 4, 4), of(api.ONeg, 0)), graphOf(param(7, 16, 4), param(7, 16, 4), of(api.OMul, 1, 0)),
		graphOf(number(least), with(of(api.OSlice, 0), -1, 0, most), with(of(api.OJoin, 1, 0), least), of(api.OAdd, 2, 2)),
		every(), line(api.MaxNodes), slices.Repeat(graphOf(param(3, 2, 4, 8)), api.MaxNodes),
	}
}

// equal tells whether two lists have equal nodes.
func equal(a, b []api.Node) bool {
	return slices.EqualFunc(a, b, func(x, y api.Node) bool {
		return x.Op == y.Op && slices.Equal(x.Args, y.Args) && slices.Equal(x.Nums, y.Nums)
	})
}

// checkRead holds Read against what it is to be.
func checkRead(t *testing.T, b []byte, want []api.Node, wantErr api.Errno) {
	t.Helper()
	l, err := Read(b)
	if !equal(l, want) || err != wantErr {
		t.Errorf("Read of %d bytes, at first %v, is %v, %d; want %v, %d", len(b), b[:min(len(b), 40)], l, err, want, wantErr)
	}
}

// checkNone holds that bytes are no graph's.
func checkNone(t *testing.T, b []byte) {
	t.Helper()
	checkRead(t, b, nil, api.ErrWire)
}

// checkAny holds Read against what it is to be, by the words of the chapter, whatever that is; which one is told.
func checkAny(t *testing.T, b []byte) api.Errno {
	t.Helper()
	if want, is := nodesOf(b); is {
		checkRead(t, b, want, api.OK)
		return api.OK
	}
	checkNone(t, b)
	return api.ErrWire
}

// checkRight holds that l has these bytes, and that it is read of them.
func checkRight(t *testing.T, l []api.Node, want []byte) {
	t.Helper()
	b, err := Write(l)
	sample.CheckBytes(t, "Write", b, err, want, api.OK)
	checkRead(t, want, l, api.OK)
}

// checkWrong holds that l has no bytes, and that what would be its bytes are no graph's.
func checkWrong(t *testing.T, l []api.Node) {
	t.Helper()
	if b, err := Write(l); len(b) > 0 || err != api.ErrGraph {
		t.Errorf("Write of %d nodes, at first %v, is %v, %d; want none, %d", len(l), l[:min(len(l), 4)], b, err, api.ErrGraph)
	}
	if hasBytes(l) {
		checkNone(t, raw(l))
	}
}

// P12.1
func TestWrite(t *testing.T) {
	one, two := strings.Repeat("\x00", 7)+"\x01", strings.Repeat("\x00", 7)+"\x02"
	for _, c := range []struct {
		l    []api.Node
		want string
	}{
		{graphOf(number(1)), "\x01\x03\x00\x01" + one},
		{graphOf(number(258)), "\x01\x03\x00\x01\x00\x00\x00\x00\x00\x00\x01\x02"},
		{graphOf(number(-2)), "\x01\x03\x00\x01\xff\xff\xff\xff\xff\xff\xff\xfe"},
		{graphOf(number(least)), "\x01\x03\x00\x01\x80\x00\x00\x00\x00\x00\x00\x00"},
		{graphOf(number(most)), "\x01\x03\x00\x01\x7f\xff\xff\xff\xff\xff\xff\xff"},
		{graphOf(input()), "\x01\x01\x00\x00"},
		{graphOf(input(1, 2)), "\x01\x01\x00\x02" + one + two},
		{graphOf(param(2)), "\x01\x02\x00\x01" + two},
		{graphOf(param(1, 1, 2, 1)), "\x01\x02\x00\x04" + one + one + two + one},
		{graphOf(input(), of(api.OSqrt, 0)), "\x02\x01\x00\x00\x17\x01\x00\x00"},
		{graphOf(input(), input(), of(api.OSub, 1, 0)), "\x03\x01\x00\x00\x01\x00\x00\x0b\x02\x01\x00\x00"},
		{graphOf(input(2), with(of(api.OSlice, 0), 0, 1, 2), with(of(api.OJoin, 1, 0), -1)), "\x03\x01\x00\x01" + two + "\x2a\x01\x00\x03" + "\x00\x00\x00\x00\x00\x00\x00\x00" + one + two + "\x2b\x02\x01\x00\x01" + "\xff\xff\xff\xff\xff\xff\xff\xff"},
	} {
		checkRight(t, c.l, []byte(c.want))
	}
}

// P12.1, P12.2: each op, with all Nums that it may have, alone, behind others, and of nodes near and far.
func TestOps(t *testing.T) {
	for count, ops := range sample.Ops() {
		for _, op := range ops {
			n := sample.RightNode(op)
			for _, nums := range sample.RightNums(op) {
				l := append(sample.Three(), with(n, nums...))
				checkRight(t, l, raw(l))
				if count == 0 {
					checkRight(t, l[3:], raw(l[3:]))
				}
			}
			for _, args := range sample.Lists(2, 0, 1, 7, 21, 22) {
				if len(args) == count {
					n.Args = args
					l := append(line(api.MaxNodes-1), n)
					checkRight(t, l, raw(l))
				}
			}
		}
	}
}

// P12.1: as many nodes as there may be, and as many bytes.
func TestCounts(t *testing.T) {
	for count := 1; count <= api.MaxNodes; count++ {
		checkRight(t, line(count), raw(line(count)))
		l := slices.Repeat(graphOf(param(7, 4, 4, 4)), count)
		checkRight(t, l, raw(l))
	}
	for _, l := range some() {
		checkRight(t, l, raw(l))
	}
}

// P12.1: graphs that may not be, in each way, and what would be their bytes.
func TestWrong(t *testing.T) {
	told := map[bool]int{}
	for _, l := range sample.WrongGraphs() {
		checkWrong(t, l)
		told[hasBytes(l)]++
	}
	if told[true] == 0 || told[false] == 0 {
		t.Errorf("with bytes and without are %v", told)
	}
}

// P12.1: a graph's bytes that are cut off, wherever, at the end, and ahead.
func TestReadCut(t *testing.T) {
	checkNone(t, nil)
	checkNone(t, []byte{})
	for _, l := range some() {
		b := raw(l)
		for to := range len(b) {
			// Spare room is no bytes.
			checkNone(t, b[:to])
			checkNone(t, slices.Clone(b[:to]))
			checkAny(t, b[to:])
		}
	}
}

// P12.1: a graph's bytes that have something behind them, or ahead.
func TestReadBehind(t *testing.T) {
	behind := [][]byte{raw(graphOf(number(1))), raw(line(3))[1:], bytes.Repeat([]byte{0}, 1<<16), bytes.Repeat([]byte{255}, 1<<20)}
	for _, b := range sample.Beside() {
		if len(b) > 0 {
			behind = append(behind, b)
		}
	}
	for digit := range 256 {
		behind = append(behind, []byte{byte(digit)})
	}
	for _, l := range some() {
		for _, b := range behind {
			checkNone(t, slices.Concat(raw(l), b))
			checkAny(t, slices.Concat(b, raw(l)))
		}
	}
}

// P12.1: a graph's bytes, with any one that is another one, or is left out, or with one put in.
func TestReadChanged(t *testing.T) {
	told := map[api.Errno]int{}
	digits := []byte{127, 128, 254, 255}
	for op := range api.OMax + 2 {
		digits = append(digits, byte(op))
	}
	for _, l := range append(some()[:7], line(7), slices.Repeat(graphOf(param(3, 2, 4, 8)), 3)) {
		b := raw(l)
		for place := range b {
			told[checkAny(t, slices.Delete(slices.Clone(b), place, place+1))]++
			for _, digit := range digits {
				changed := slices.Clone(b)
				changed[place] = digit
				told[checkAny(t, changed)]++
			}
			for _, digit := range []byte{0, 1, 2, 8, 255} {
				told[checkAny(t, slices.Insert(slices.Clone(b), place, digit))]++
			}
		}
	}
	if told[api.OK] == 0 || told[api.ErrWire] == 0 {
		t.Errorf("answers are %v", told)
	}
}

// P12.1: whatever bytes there are, few, and some with many behind.
func TestReadAll(t *testing.T) {
	told := map[api.Errno]int{}
	for _, b := range sample.Lists[byte](8, 0, 1, 2, api.ONeg) {
		told[checkAny(t, b)]++
	}
	for _, head := range sample.Lists[byte](5, 0, 1, 2, 3, api.ONeg, 255) {
		for _, count := range []int{1, 7, 8, 15, 16, 2040} {
			told[checkAny(t, append(slices.Clone(head), make([]byte, count)...))]++
		}
	}
	if told[api.OK] == 0 || told[api.ErrWire] == 0 {
		t.Errorf("answers are %v", told)
	}
}

// P12.1: as many bytes as lists can be told to have, and more.
func TestReadLong(t *testing.T) {
	for _, count := range []byte{1, 24, 25, 255} {
		for _, long := range []int{888, 889, 890, 1 << 12, 1 << 16, 1 << 24} {
			for digit := range 256 {
				if long < 1<<16 || digit%51 == 0 {
					checkNone(t, append([]byte{count}, bytes.Repeat([]byte{byte(digit)}, long)...))
				}
			}
		}
		// Lists that have the most numbers that they can be told to have.
		args := append([]byte{api.ONeg, 255}, make([]byte, 255)...)
		nums := append([]byte{api.OConst, 0, 255}, make([]byte, 8*255)...)
		checkNone(t, append([]byte{count}, bytes.Repeat(append(args, 0), int(count))...))
		checkNone(t, append([]byte{count}, bytes.Repeat(nums, int(count))...))
	}
}

// P12.2: all graphs of up to four nodes of seven kinds.
func TestGrown(t *testing.T) {
	for count := 1; count <= 4; count++ {
		for _, l := range sample.Grown(nil, count, func(node int) []api.Node {
			choice := graphOf(input(2, 3), param(5, 1), number(-1-node))
			for a := range node {
				choice = append(choice, of(api.OTurn, a), with(of(api.OSlice, a), node, -1, most))
				for b := range node {
					choice = append(choice, of(api.ODiv, a, b), with(of(api.OJoin, a, b), least))
				}
			}
			return choice
		}) {
			b, err := Write(l)
			sample.CheckBytes(t, "Write", b, err, raw(l), api.OK)
			checkRead(t, b, l, api.OK)
		}
	}
}

// R4: a graph that is handed in is left as it was, its spare room too, and shares nothing with its bytes.
func TestWriteMemory(t *testing.T) {
	sides, args := []int{2, 3, 7, 7}, []int{0, 0, 9, 9}
	room := graphOf(with(of(api.OInput), sides[:2]...), of(api.OAdd, args[:2]...), param(4, 1), with(of(api.OSlice, 1), 0, 0, 2), of(api.OMax))
	before := fmt.Sprint(room, sides, args)
	for range 3 {
		l := room[:4]
		first, _ := Write(l)
		second, _ := Write(l)
		sample.BytesApart(t, []sample.Answer{{Got: first, Want: raw(l)}, {Got: second, Want: raw(l)}})
		checkWrong(t, room)
		if after := fmt.Sprint(room, sides, args); after != before {
			t.Errorf("what was handed in is now %s, not %s", after, before)
		}
	}
}

// R4: bytes that are handed in are left as they were, their spare room too, and share nothing with the graphs, nor do their lists with each other.
func TestReadMemory(t *testing.T) {
	for _, l := range some() {
		b := append(raw(l), raw(l)...)
		before := slices.Clone(b)
		var got, want [][]int
		for range 3 {
			nodes, _ := Read(b[:len(b)/2])
			for _, n := range nodes {
				got = append(got, n.Args, n.Nums)
			}
			for _, n := range l {
				want = append(want, n.Args, n.Nums)
			}
			clear(nodes[:cap(nodes)])
			checkNone(t, b)
		}
		sample.ListsApart(t, got, want)
		checkRead(t, b[:len(b)/2], l, api.OK)
		if !bytes.Equal(b, before) {
			t.Errorf("bytes that were handed in are now %v, not %v", b, before)
		}
	}
}
