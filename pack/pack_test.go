package pack

import (
	"bytes"
	"encoding/binary"
	"errors"
	"slices"
	"strings"
	"testing"

	"fuller/api"
	"fuller/sample"
)

const (
	least = sample.Least
	most  = sample.Most
)

// sizes are all that there are.
func sizes() []int {
	return []int{1, 2, 8}
}

// wrongSizes are none, some of which wrap round to one.
func wrongSizes() []int {
	return []int{
		least, least + 1, least + 8, -256, -8, -2, -1, 0, 3, 4, 5, 6, 7, 9, 10, 16, 32, 64, 255, 256, 257, 258, 264,
		1<<32 + 1, 1<<32 + 2, 1<<32 + 8, most,
	}
}

// numbers are edges of the sizes, numbers beside them, and each bit alone.
func numbers() []int {
	l := []int{0, 258, 0x0102030405060708, -0x0102030405060708, -2, -255, -257, least, least + 1, most, most - 1}
	for bit := range 63 {
		l = append(l, 1<<bit-1, 1<<bit, 1<<bit+1, -1<<bit-1, -1<<bit, -1<<bit+1)
	}
	return l
}

// may tells whether n is a number of a size.
func may(n, size int) bool {
	switch size {
	case 1:
		return n >= 0 && n <= 255
	case 2:
		return n >= 0 && n <= 65535
	}
	return size == 8
}

// digits is n in size bytes, by the library.
func digits(n, size int) []byte {
	switch size {
	case 1:
		return []byte{byte(n)}
	case 2:
		return binary.BigEndian.AppendUint16(nil, uint16(n))
	}
	return binary.BigEndian.AppendUint64(nil, uint64(n))
}

// listed is List of nothing and l, that has one, written by the promise's words.
func listed(l []int, size int) []byte {
	b := []byte{byte(len(l))}
	for _, n := range l {
		b = append(b, digits(n, size)...)
	}
	return b
}

// counted are so many numbers from one on.
func counted(count, from int) []int {
	l := make([]int, count)
	for i := range l {
		l[i] = from + i
	}
	return l
}

// checkPut holds Put of n against want, and, where that may be, Take of it, ahead of whatever is behind.
func checkPut(t *testing.T, n, size int, want []byte, wantErr api.Errno) {
	t.Helper()
	sample.CheckBehind(t, "Put", func(b []byte) ([]byte, api.Errno) { return Put(b, n, size) }, want, wantErr)
	if wantErr != api.OK {
		return
	}
	for _, behind := range sample.Beside() {
		checkTake(t, slices.Concat(want, behind), size, n, behind, api.OK)
	}
}

// checkTake holds Take against what it is to be.
func checkTake(t *testing.T, b []byte, size, want int, wantBehind []byte, wantErr api.Errno) {
	t.Helper()
	n, behind, err := Take(b, size)
	if n != want || !bytes.Equal(behind, wantBehind) || err != wantErr {
		t.Errorf("Take(%v, %d) is %d, %v, %d; want %d, %v, %d", b, size, n, behind, err, want, wantBehind, wantErr)
	}
}

// checkList holds List of l against want, and, where that may be, TakeList of it, ahead of whatever is behind.
func checkList(t *testing.T, l []int, size int, want []byte, wantErr api.Errno) {
	t.Helper()
	sample.CheckBehind(t, "List", func(b []byte) ([]byte, api.Errno) { return List(b, l, size) }, want, wantErr)
	if wantErr != api.OK {
		return
	}
	for _, behind := range sample.Beside() {
		checkTakeList(t, slices.Concat(want, behind), size, l, behind, api.OK)
	}
}

// checkTakeList holds TakeList against what it is to be.
func checkTakeList(t *testing.T, b []byte, size int, want []int, wantBehind []byte, wantErr api.Errno) {
	t.Helper()
	l, behind, err := TakeList(b, size)
	if !slices.Equal(l, want) || !bytes.Equal(behind, wantBehind) || err != wantErr {
		t.Errorf("TakeList(%v, %d) is %v, %v, %d; want %v, %v, %d", b, size, l, behind, err, want, wantBehind, wantErr)
	}
}

// P8.1
func TestPut(t *testing.T) {
	for _, c := range []struct {
		n, size int
		want    string
	}{
		{0, 1, "\x00"}, {1, 1, "\x01"}, {127, 1, "\x7f"}, {128, 1, "\x80"}, {255, 1, "\xff"},
		{0, 2, "\x00\x00"}, {1, 2, "\x00\x01"}, {255, 2, "\x00\xff"}, {256, 2, "\x01\x00"}, {258, 2, "\x01\x02"},
		{32767, 2, "\x7f\xff"}, {32768, 2, "\x80\x00"}, {65535, 2, "\xff\xff"},
		{0, 8, "\x00\x00\x00\x00\x00\x00\x00\x00"}, {1, 8, "\x00\x00\x00\x00\x00\x00\x00\x01"},
		{65536, 8, "\x00\x00\x00\x00\x00\x01\x00\x00"}, {api.One, 8, "\x00\x00\x00\x01\x00\x00\x00\x00"},
		{0x0102030405060708, 8, "\x01\x02\x03\x04\x05\x06\x07\x08"}, {most, 8, "\x7f\xff\xff\xff\xff\xff\xff\xff"},
		{-1, 8, "\xff\xff\xff\xff\xff\xff\xff\xff"}, {-256, 8, "\xff\xff\xff\xff\xff\xff\xff\x00"},
		{-api.One, 8, "\xff\xff\xff\xff\x00\x00\x00\x00"}, {least, 8, "\x80\x00\x00\x00\x00\x00\x00\x00"},
		{least + 1, 8, "\x80\x00\x00\x00\x00\x00\x00\x01"},
	} {
		checkPut(t, c.n, c.size, []byte(c.want), api.OK)
	}
}

// P8.1: all numbers of one byte, and of two, and those beside them that are none.
func TestPutAll(t *testing.T) {
	for n := -300; n <= 65535+300; n++ {
		for _, size := range sizes() {
			want, wantErr := digits(n, size), api.OK
			if !may(n, size) {
				want, wantErr = nil, api.ErrPack
			}
			got, err := Put(nil, n, size)
			sample.CheckBytes(t, "Put", got, err, want, wantErr)
			if wantErr == api.OK {
				checkTake(t, want, size, n, nil, api.OK)
			}
		}
	}
}

// P8.1: edges of each size, and each bit of a number.
func TestPutEdges(t *testing.T) {
	told := map[api.Errno]int{}
	for _, n := range numbers() {
		for _, size := range sizes() {
			want, wantErr := digits(n, size), api.OK
			if !may(n, size) {
				want, wantErr = nil, api.ErrPack
			}
			checkPut(t, n, size, want, wantErr)
			told[wantErr]++
		}
	}
	if told[api.OK] == 0 || told[api.ErrPack] == 0 {
		t.Errorf("answers are %v", told)
	}
}

// P8.1: what is no size, of numbers of all sizes and of none, and of bytes enough and too few.
func TestSizeWrong(t *testing.T) {
	for _, size := range wrongSizes() {
		for _, n := range []int{0, 1, 255, 256, 65536, -1, least, most} {
			checkPut(t, n, size, nil, api.ErrPack)
		}
		for _, b := range append(sample.Beside(), make([]byte, 8), make([]byte, 1000)) {
			checkTake(t, b, size, 0, nil, api.ErrPack)
		}
	}
}

// P8.1: too few bytes, and just as many.
func TestTakeShort(t *testing.T) {
	long := []byte{9, 8, 7, 6, 5, 4, 3, 2, 1, 0}
	for _, size := range sizes() {
		for count := range size {
			// Spare room is no bytes.
			checkTake(t, long[:count], size, 0, nil, api.ErrPack)
			checkTake(t, slices.Clone(long[:count]), size, 0, nil, api.ErrPack)
		}
		checkTake(t, nil, size, 0, nil, api.ErrPack)
	}
	checkTake(t, long, 1, 9, long[1:], api.OK)
	checkTake(t, long, 2, 0x0908, long[2:], api.OK)
	checkTake(t, long, 8, 0x0908070605040302, long[8:], api.OK)
	checkTake(t, long[:1], 1, 9, nil, api.OK)
	checkTake(t, long[:2], 2, 0x0908, nil, api.OK)
	checkTake(t, long[:8], 8, 0x0908070605040302, nil, api.OK)
}

// P8.2
func TestList(t *testing.T) {
	for _, c := range []struct {
		l    []int
		size int
		want string
	}{
		{nil, 1, "\x00"}, {nil, 2, "\x00"}, {nil, 8, "\x00"}, {[]int{}, 1, "\x00"},
		{[]int{5}, 1, "\x01\x05"}, {[]int{0, 255, 1}, 1, "\x03\x00\xff\x01"},
		{[]int{1, 258}, 2, "\x02\x00\x01\x01\x02"}, {[]int{65535, 0}, 2, "\x02\xff\xff\x00\x00"},
		{[]int{1}, 8, "\x01\x00\x00\x00\x00\x00\x00\x00\x01"},
		{[]int{-1, least}, 8, "\x02\xff\xff\xff\xff\xff\xff\xff\xff\x80\x00\x00\x00\x00\x00\x00\x00"},
		{make([]int, 255), 1, "\xff" + strings.Repeat("\x00", 255)},
		{make([]int, 255), 2, "\xff" + strings.Repeat("\x00", 2*255)},
		{make([]int, 255), 8, "\xff" + strings.Repeat("\x00", 8*255)},
	} {
		checkList(t, c.l, c.size, []byte(c.want), api.OK)
	}
}

// P8.2: lists as long as may be, and longer.
func TestListLong(t *testing.T) {
	for _, size := range sizes() {
		for count := range 256 {
			l := counted(count, 0)
			checkList(t, l, size, listed(l, size), api.OK)
		}
		for _, count := range []int{256, 257, 511, 512, 65535, 65536, 65537, 100000} {
			checkList(t, make([]int, count), size, nil, api.ErrPack)
		}
	}
}

// P8.2: one number that is none of the size, wherever it stands.
func TestListNumbers(t *testing.T) {
	for _, n := range numbers() {
		for _, size := range sizes() {
			for _, count := range []int{1, 2, 3, 255} {
				for _, place := range []int{0, count / 2, count - 1} {
					l := counted(count, 0)
					l[place] = n
					if may(n, size) {
						checkList(t, l, size, listed(l, size), api.OK)
					} else {
						checkList(t, l, size, nil, api.ErrPack)
					}
				}
			}
		}
	}
}

// P8.2: what is no size, of lists without numbers too.
func TestListSizeWrong(t *testing.T) {
	for _, size := range wrongSizes() {
		for _, l := range [][]int{nil, {}, {0}, {1, 2}, {-1}, {256}, make([]int, 255), make([]int, 256)} {
			checkList(t, l, size, nil, api.ErrPack)
		}
		for _, b := range append(sample.Beside(), make([]byte, 8), bytes.Repeat([]byte{1}, 1000)) {
			checkTakeList(t, b, size, nil, nil, api.ErrPack)
		}
	}
}

// P8.2: lists that are cut off, wherever.
func TestTakeListShort(t *testing.T) {
	for _, size := range sizes() {
		checkTakeList(t, nil, size, nil, nil, api.ErrPack)
		for _, count := range []int{0, 1, 2, 3, 16, 254, 255} {
			b := listed(counted(count, 0), size)
			for to := range len(b) {
				// Spare room is no bytes.
				checkTakeList(t, b[:to], size, nil, nil, api.ErrPack)
				checkTakeList(t, slices.Clone(b[:to]), size, nil, nil, api.ErrPack)
			}
		}
	}
}

// P8.1, P8.2: whatever bytes there are, what is taken of them is what is put back to them, or there are too few.
func TestTakeAll(t *testing.T) {
	told := map[api.Errno]int{}
	for _, b := range append(sample.Lists[byte](5, 0, 1, 2, 4, 128, 255), sample.Lists[byte](17, 1)...) {
		for _, size := range sizes() {
			n, behind, err := Take(b, size)
			if short := len(b) < size; short != (err == api.ErrPack) || short && (n != 0 || len(behind) != 0) {
				t.Errorf("Take(%v, %d) is %d, %v, %d", b, size, n, behind, err)
			}
			if err == api.OK && (!may(n, size) || !bytes.Equal(append(digits(n, size), behind...), b)) {
				t.Errorf("Take(%v, %d) is %d, %v", b, size, n, behind)
			}
			l, behind, err := TakeList(b, size)
			if short := len(b) == 0 || len(b) < 1+size*int(b[0]); short != (err == api.ErrPack) || short && len(l)+len(behind) != 0 {
				t.Errorf("TakeList(%v, %d) is %v, %v, %d", b, size, l, behind, err)
			}
			if err == api.OK && !bytes.Equal(append(listed(l, size), behind...), b) {
				t.Errorf("TakeList(%v, %d) is %v, %v", b, size, l, behind)
			}
			told[err]++
		}
	}
	if told[api.OK] == 0 || told[api.ErrPack] == 0 {
		t.Errorf("answers are %v", told)
	}
}

// P8.3: numbers and lists of all sizes, one behind the other, whatever stands ahead, and behind.
func TestTakenAgain(t *testing.T) {
	parts := [][]int{{0}, {255}, nil, {65535, 0, 256}, counted(255, 1), {least, -1, most}}
	for _, ahead := range sample.Beside() {
		for _, behind := range sample.Beside() {
			b := ahead
			for i, l := range parts {
				b = putPart(t, b, l, i)
			}
			left := slices.Concat(b[len(ahead):], behind)
			for i, l := range parts {
				left = takePart(t, left, l, i)
			}
			sample.CheckBytes(t, "what is behind", left, api.OK, behind, api.OK)
		}
	}
}

// sizeOf is that of a part: lists that may be in fewer bytes are in all sizes that take them, in turn.
func sizeOf(l []int, turn int) int {
	fitting := slices.DeleteFunc(sizes(), func(size int) bool {
		return slices.ContainsFunc(l, func(n int) bool { return !may(n, size) })
	})
	return fitting[turn%len(fitting)]
}

// putPart puts a list, and behind it each of its numbers alone.
func putPart(t *testing.T, b []byte, l []int, turn int) []byte {
	t.Helper()
	size := sizeOf(l, turn)
	b, err := List(b, l, size)
	if err != api.OK {
		t.Errorf("List of %v is %d", l, err)
	}
	for _, n := range l {
		if b, err = Put(b, n, size); err != api.OK {
			t.Errorf("Put of %d is %d", n, err)
		}
	}
	return b
}

// takePart takes what putPart put, and is what is behind.
func takePart(t *testing.T, b []byte, l []int, turn int) []byte {
	t.Helper()
	size := sizeOf(l, turn)
	got, b, err := TakeList(b, size)
	if !slices.Equal(got, l) || err != api.OK {
		t.Errorf("TakeList is %v, %d; want %v", got, err, l)
	}
	for _, want := range l {
		var n int
		if n, b, err = Take(b, size); n != want || err != api.OK {
			t.Errorf("Take is %d, %d; want %d", n, err, want)
		}
	}
	return b
}

// R4: what is handed in is left as it was, its spare room too, and shares nothing with what is answered.
func TestMemory(t *testing.T) {
	for _, size := range sizes() {
		taken := append(listed([]int{4, 5}, size), 6, 7)
		b, l := append(slices.Clone(taken), make([]byte, 40)...), []int{1, 2, 3, 9, 9}
		long, handed := slices.Clone(b), slices.Clone(l)
		put := slices.Concat(taken, digits(3, size))
		list := slices.Concat(taken, listed(l[:3], size))
		for range 2 {
			b := b[:len(taken)]
			number, _ := Put(b, 3, size)
			_, behind, _ := Take(b, size)
			all, _ := List(b, l[:3], size)
			numbers, behindList, _ := TakeList(b, size)
			none, _ := List(b, nil, size)
			left := taken[len(taken)-2:]
			sample.BytesApart(t, []sample.Answer{
				{Got: number, Want: put}, {Got: behind, Want: taken[size:]}, {Got: all, Want: list}, {Got: behindList, Want: left},
				{Got: none, Want: append(slices.Clone(taken), 0)},
			})
			sample.Overwrite(numbers)
			sample.CheckBytes(t, "what is behind a list that is written over", behindList, api.OK, sample.Changed(left), api.OK)
		}
		for _, wrong := range []int{-1, 256, 65536, most} {
			Put(b[:3], wrong, size)
			List(b[:3], []int{1, 2, wrong}, size)
			List(b[:3], l[:3], wrong)
			TakeList(b[:1], size)
		}
		if !bytes.Equal(b, long) || !slices.Equal(l, handed) {
			t.Errorf("size %d: what was handed in is now %v, %v", size, b, l)
		}
	}
}

// R1: whatever ends a call, no panic leaves it.
func TestTold(t *testing.T) {
	for _, c := range []struct {
		end  any
		want api.Errno
	}{
		{nil, api.OK}, {api.ErrPack, api.ErrPack}, {api.ErrArg, api.ErrArg},
		{"text", api.ErrPack}, {7, api.ErrPack}, {errors.New("error"), api.ErrPack},
	} {
		if err := told(c.end); err != c.want {
			t.Errorf("told(%v) is %d; want %d", c.end, err, c.want)
		}
	}
}
