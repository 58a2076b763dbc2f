package image

import (
	"bytes"
	"encoding/binary"
	"slices"
	"strings"
	"testing"

	"fuller/api"
	"fuller/sample"
	"fuller/tensor"
)

const (
	least = sample.Least
	most  = sample.Most
)

// raw is what would be t's bytes, by the library, whether t may be or not.
func raw(t api.Tensor) []byte {
	b := []byte{byte(len(t.Shape))}
	for _, side := range t.Shape {
		b = append(b, byte(side))
	}
	for _, n := range t.Data {
		b = binary.BigEndian.AppendUint64(b, uint64(n))
	}
	return b
}

// raws are those of each, one behind the other.
func raws(l []api.Tensor) []byte {
	var b []byte
	for _, t := range l {
		b = append(b, raw(t)...)
	}
	return b
}

// long is how many bytes the tensor has that b begins with; 0, if there is none: by the words of the chapter.
func long(b []byte) int {
	if len(b) == 0 || b[0] > 3 || len(b) < 1+int(b[0]) {
		return 0
	}
	size := 1
	for _, side := range b[1 : 1+b[0]] {
		if side < 1 || side > 16 {
			return 0
		}
		size *= int(side)
	}
	all := 1 + int(b[0]) + 8*size
	if size > 64 || len(b) < all {
		return 0
	}
	return all
}

// sides are all that a shape's may be.
func sides() []int {
	var l []int
	for side := range api.MaxSide {
		l = append(l, side+1)
	}
	return l
}

// edges are tensors of shapes, and with numbers, at the ends of what may be.
func edges() []api.Tensor {
	var all []api.Tensor
	for _, s := range append(sample.Shapes(1, 2, 3), []int{16}, []int{16, 4}, []int{8, 8}, []int{4, 4, 4}, []int{1, 16, 4}, []int{7, 9}) {
		all = append(all, sample.Filled(s, least, -1, 0, 1, 258, most, -api.One, 0x0102030405060708), sample.Counted(s, -2), sample.Filled(s, 0))
	}
	return all
}

// some are a few tensors, two of which have equal numbers.
func some() []api.Tensor {
	return []api.Tensor{sample.Of(nil, 7), sample.Row(7), sample.Counted([]int{2, 1, 2}, -2), sample.Filled([]int{16, 4}, least, most)}
}

// wrongBytes are of no tensor: shapes that may not be, with as many numbers as their sides ask for, and with many.
func wrongBytes() [][]byte {
	var all [][]byte
	for _, s := range []string{
		"\x01\x00", "\x01\x11", "\x01\x40", "\x01\xff", "\x02\x02\x00", "\x02\x00\x02", "\x02\x05\x0d", "\x02\x10\x10", "\x02\x11\x01",
		"\x02\x10\x05", "\x03\x10\x10\x10", "\x03\x01\x01\x00", "\x03\x05\x05\x03", "\x03\x80\x80\x80", "\x03\x01\x01\x41", "\x03\xff\xff\xff",
		"\x04\x01\x01\x01\x01", "\x04\x02\x01\x01\x01", "\x05\x01\x01\x01\x01\x01", "\x40" + strings.Repeat("\x01", 64),
		"\x80" + strings.Repeat("\x01", 128), "\xff" + strings.Repeat("\x01", 255),
	} {
		size := 1
		for _, side := range []byte(s)[1:] {
			size = min(size*int(side), 1<<13)
		}
		for _, count := range []int{0, 1, size, 64, 65, 1 << 13} {
			all = append(all, append([]byte(s), make([]byte, 8*count)...))
		}
	}
	return all
}

// checkTake holds Take against what it is to be.
func checkTake(t *testing.T, b []byte, want api.Tensor, wantBehind []byte, wantErr api.Errno) {
	t.Helper()
	x, behind, err := Take(b)
	sample.Check(t, "Take", x, err, want, wantErr)
	sample.CheckBytes(t, "what is behind", behind, err, wantBehind, wantErr)
}

// checkPut holds Put of x against want, and, where that may be, Take of it, ahead of whatever is behind.
func checkPut(t *testing.T, x api.Tensor, want []byte, wantErr api.Errno) {
	t.Helper()
	sample.CheckBehind(t, "Put", func(b []byte) ([]byte, api.Errno) { return Put(b, x) }, want, wantErr)
	if wantErr != api.OK {
		return
	}
	for _, behind := range sample.Beside() {
		checkTake(t, slices.Concat(want, behind), x, behind, api.OK)
	}
}

// checkRead holds Read against what it is to be.
func checkRead(t *testing.T, b []byte, want []api.Tensor, wantErr api.Errno) {
	t.Helper()
	l, err := Read(b)
	if len(l) != len(want) || err != wantErr {
		t.Errorf("Read of %d bytes is %d tensors, %d; want %d, %d", len(b), len(l), err, len(want), wantErr)
		return
	}
	for i, x := range l {
		sample.Check(t, "Read", x, err, want[i], wantErr)
	}
}

// checkWrite holds Write of l against what it is to be, and, where that may be, Read of it.
func checkWrite(t *testing.T, l []api.Tensor, want []byte, wantErr api.Errno) {
	t.Helper()
	b, err := Write(l)
	sample.CheckBytes(t, "Write", b, err, want, wantErr)
	if wantErr == api.OK {
		checkRead(t, want, l, api.OK)
	}
}

// P9.1
func TestPut(t *testing.T) {
	for _, c := range []struct {
		x    api.Tensor
		want string
	}{
		{sample.Of(nil, 1), "\x00\x00\x00\x00\x00\x00\x00\x00\x01"},
		{sample.Of([]int{}, -1), "\x00\xff\xff\xff\xff\xff\xff\xff\xff"},
		{sample.Row(1), "\x01\x01\x00\x00\x00\x00\x00\x00\x00\x01"},
		{sample.Row(258, least), "\x01\x02\x00\x00\x00\x00\x00\x00\x01\x02\x80\x00\x00\x00\x00\x00\x00\x00"},
		{sample.Of([]int{2, 1}, api.One, most), "\x02\x02\x01\x00\x00\x00\x01\x00\x00\x00\x00\x7f\xff\xff\xff\xff\xff\xff\xff"},
		{sample.Of([]int{1, 2, 1}, 0, -2), "\x03\x01\x02\x01\x00\x00\x00\x00\x00\x00\x00\x00\xff\xff\xff\xff\xff\xff\xff\xfe"},
		{sample.Filled([]int{16, 4}, 0), "\x02\x10\x04" + strings.Repeat("\x00", 8*64)},
		{sample.Filled([]int{4, 4, 4}, -1), "\x03\x04\x04\x04" + strings.Repeat("\xff", 8*64)},
	} {
		checkPut(t, c.x, []byte(c.want), api.OK)
	}
}

// P9.1, P9.3: tensors of all shapes that may be, and numbers at the ends of what may be.
func TestPutAll(t *testing.T) {
	for _, s := range sample.Shapes(sides()...) {
		x := sample.Counted(s, -3)
		checkPut(t, x, raw(x), api.OK)
	}
	for _, x := range edges() {
		checkPut(t, x, raw(x), api.OK)
	}
}

// P9.1, P9.2: tensors that may not be, alone, and at any place of a list.
func TestTensorWrong(t *testing.T) {
	for _, x := range sample.WrongTensors() {
		checkPut(t, x, nil, api.ErrTensor)
		for place := range len(some()) + 1 {
			checkWrite(t, slices.Insert(some(), place, x), nil, api.ErrTensor)
		}
		checkWrite(t, []api.Tensor{x}, nil, api.ErrTensor)
		checkWrite(t, []api.Tensor{x, x}, nil, api.ErrTensor)
	}
}

// P9.1: tensors' bytes that are cut off, wherever.
func TestTakeShort(t *testing.T) {
	checkTake(t, nil, api.Tensor{}, nil, api.ErrImage)
	for _, x := range edges() {
		b := raw(x)
		for to := range len(b) {
			// Spare room is no bytes.
			checkTake(t, b[:to], api.Tensor{}, nil, api.ErrImage)
			checkTake(t, slices.Clone(b[:to]), api.Tensor{}, nil, api.ErrImage)
		}
	}
}

// P9.1, P9.2: bytes of no tensor, alone, and at any place among those of tensors.
func TestBytesWrong(t *testing.T) {
	for _, wrong := range wrongBytes() {
		checkTake(t, wrong, api.Tensor{}, nil, api.ErrImage)
		checkRead(t, wrong, nil, api.ErrImage)
		for place := range len(some()) + 1 {
			b := slices.Concat(raws(some()[:place]), wrong, raws(some()[place:]))
			checkRead(t, b, nil, api.ErrImage)
			if place > 0 {
				checkTake(t, b, some()[0], b[9:], api.OK)
			}
		}
	}
}

// P9.1: however many numbers stand behind a shape, that may be or not, there is a tensor if there are enough for it.
func TestTakeAll(t *testing.T) {
	told := map[api.Errno]int{}
	for _, head := range sample.Lists[byte](5, 0, 1, 2, 3, 4, 16, 17, 255) {
		for _, count := range []int{0, 7, 8, 15, 16, 64, 8*64 - 1, 8 * 64, 8*64 + 9} {
			b := append(slices.Clone(head), bytes.Repeat([]byte{5}, count)...)
			x, behind, err := Take(b)
			if all := long(b); all > 0 {
				sample.CheckBytes(t, "what was taken, and what is behind", append(raw(x), behind...), err, b, api.OK)
				sample.CheckBytes(t, "what was taken", raw(x), err, b[:all], api.OK)
			} else if len(x.Shape)+len(x.Data)+len(behind) > 0 || err != api.ErrImage {
				t.Errorf("Take(%v) is %v, %v, %d", b, x, behind, err)
			}
			if err == api.OK && !tensor.Check(x) {
				t.Errorf("Take(%v) is %v, which may not be", b, x)
			}
			told[err]++
		}
	}
	if told[api.OK] == 0 || told[api.ErrImage] == 0 {
		t.Errorf("answers are %v", told)
	}
}

// P9.2
func TestWrite(t *testing.T) {
	one := "\x00\x00\x00\x00\x00\x00\x00\x00\x01"
	row := "\x01\x02\x00\x00\x00\x00\x00\x00\x00\x03\xff\xff\xff\xff\xff\xff\xff\xff"
	a, b := sample.Of(nil, 1), sample.Row(3, -1)
	for _, c := range []struct {
		l    []api.Tensor
		want string
	}{
		{nil, ""}, {[]api.Tensor{}, ""}, {[]api.Tensor{a}, one}, {[]api.Tensor{b}, row}, {[]api.Tensor{a, b}, one + row},
		{[]api.Tensor{b, a}, row + one}, {[]api.Tensor{a, a, a}, one + one + one}, {[]api.Tensor{b, b, a, b}, row + row + one + row},
	} {
		checkWrite(t, c.l, []byte(c.want), api.OK)
	}
	checkRead(t, []byte{}, nil, api.OK)
	checkWrite(t, edges(), raws(edges()), api.OK)
}

// P9.2, P9.3: all lists of some tensors; and cut off anywhere they are such lists only where a tensor ends.
func TestReadShort(t *testing.T) {
	for _, l := range sample.Lists(3, some()...) {
		b := raws(l)
		checkWrite(t, l, b, api.OK)
		ends := map[int]int{}
		for count := range len(l) + 1 {
			ends[len(raws(l[:count]))] = count
		}
		for to := range len(b) {
			if count, end := ends[to]; end {
				checkRead(t, b[:to], l[:count], api.OK)
			} else {
				checkRead(t, b[:to], nil, api.ErrImage)
			}
		}
	}
}

// P9.2: bytes behind that are of no tensor.
func TestReadBehind(t *testing.T) {
	for _, l := range sample.Lists(2, some()...) {
		for _, behind := range sample.Beside() {
			b := slices.Concat(raws(l), behind)
			if len(behind) == 0 {
				checkRead(t, b, l, api.OK)
			} else {
				checkRead(t, b, nil, api.ErrImage)
			}
		}
	}
}

// P9.3: whatever bytes there are, if they are tensors', those are written as just these bytes again.
func TestReadAll(t *testing.T) {
	told := map[api.Errno]int{}
	var parts [][]byte
	for _, head := range sample.Lists[byte](2, 0, 1, 2, 17) {
		for _, count := range []int{7, 8, 16} {
			parts = append(parts, append(slices.Clone(head), make([]byte, count)...))
		}
	}
	for _, l := range sample.Lists(3, parts...) {
		b := slices.Concat(l...)
		left := b
		for long(left) > 0 {
			left = left[long(left):]
		}
		read, err := Read(b)
		if wrong := len(left) > 0; wrong != (err == api.ErrImage) || wrong && len(read) > 0 {
			t.Errorf("Read(%v) is %v, %d", b, read, err)
		}
		if err == api.OK {
			again, err := Write(read)
			sample.CheckBytes(t, "Write of what was read", again, err, b, api.OK)
		}
		told[err]++
	}
	if told[api.OK] == 0 || told[api.ErrImage] == 0 {
		t.Errorf("answers are %v", told)
	}
}

// P9.2: many tensors, of which each takes no longer than the first.
func TestReadLong(t *testing.T) {
	for _, x := range []api.Tensor{sample.Of(nil, 7), sample.Counted([]int{4, 4, 4}, least)} {
		l := slices.Repeat([]api.Tensor{x}, 100000)
		b := bytes.Repeat(raw(x), len(l))
		checkWrite(t, l, b, api.OK)
		checkRead(t, b[:len(b)-1], nil, api.ErrImage)
		checkTake(t, b, x, b[len(raw(x)):], api.OK)
	}
}

// R4: bytes that are handed in are left as they were, spare room too, and share nothing with what is answered.
func TestMemory(t *testing.T) {
	x := sample.Of([]int{2, 1, 9}[:2], []int{5, -6, 9}[:2]...)
	taken := append(raw(x), 6, 7)
	b := append(slices.Clone(taken), make([]byte, 40)...)
	before, handed := slices.Clone(b), slices.Concat(x.Shape[:3], x.Data[:3])
	for range 2 {
		b := b[:len(taken)]
		all, _ := Put(b, x)
		_, behind, _ := Take(b)
		whole, _ := Write([]api.Tensor{x, x})
		same, _ := Write([]api.Tensor{x})
		sample.BytesApart(t, []sample.Answer{
			{Got: all, Want: append(slices.Clone(taken), raw(x)...)}, {Got: behind, Want: []byte{6, 7}},
			{Got: whole, Want: append(raw(x), raw(x)...)}, {Got: same, Want: raw(x)},
		})
		Put(b, sample.Row())
		Take(b[:len(b)-3])
		Read(b)
		Write([]api.Tensor{x, {}})
	}
	if !bytes.Equal(b, before) || !slices.Equal(slices.Concat(x.Shape[:3], x.Data[:3]), handed) {
		t.Errorf("what was handed in is now %v, %v", b, x)
	}
}

// R4: no two lists of what is taken, or read, share anything.
func TestMemoryTaken(t *testing.T) {
	x := sample.Of([]int{1, 2}, 5, -6)
	b := raws([]api.Tensor{x, x, x})
	before := slices.Clone(b)
	sample.Apart(t, "Take", func() (api.Tensor, api.Errno) {
		got, behind, err := Take(b)
		sample.Overwrite(behind)
		return got, err
	}, x)
	for range 2 {
		l, _ := Read(b)
		for i, got := range l {
			sample.Check(t, "Read, the tensors ahead written over", got, api.OK, x, api.OK)
			sample.Overwrite(got.Shape)
			sample.Check(t, "Read, its shape written over", sample.Of(x.Shape, got.Data...), api.OK, x, api.OK)
			sample.Overwrite(got.Data)
			sample.Overwrite(l[i].Shape)
		}
		if len(l) != 3 || !bytes.Equal(b, before) {
			t.Errorf("%d tensors of bytes that are now %v", len(l), b)
		}
	}
}
