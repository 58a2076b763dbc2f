// Package sample has the lists, shapes, tensors, bytes, nodes and versions that the layers' tests are made of, and holds answers against each other.
package sample

import (
	"bytes"
	"math"
	"slices"

	"fuller/api"
	"fuller/shape"
)

// Least and Most are the numbers at either end.
const (
	Least = math.MinInt
	Most  = math.MaxInt
)

// Teller is what a test tells its faults by.
type Teller interface {
	Helper()
	Errorf(format string, args ...any)
}

// Check holds what a call answered against what it is to be.
func Check(t Teller, call string, got api.Tensor, err api.Errno, want api.Tensor, wantErr api.Errno) {
	t.Helper()
	if !slices.Equal(got.Shape, want.Shape) || !slices.Equal(got.Data, want.Data) || err != wantErr {
		t.Errorf("%s: %v, %d; want %v, %d", call, got, err, want, wantErr)
	}
}

// CheckBytes holds bytes that a call answered against what they are to be.
func CheckBytes(t Teller, call string, got []byte, err api.Errno, want []byte, wantErr api.Errno) {
	t.Helper()
	if !bytes.Equal(got, want) || err != wantErr {
		t.Errorf("%s: %v, %d; want %v, %d", call, got, err, want, wantErr)
	}
}

// CheckBehind holds what is put, behind whatever stands ahead, against what it is to be.
func CheckBehind(t Teller, call string, put func(b []byte) ([]byte, api.Errno), want []byte, wantErr api.Errno) {
	t.Helper()
	for _, b := range Beside() {
		all := slices.Concat(b, want)
		if wantErr != api.OK {
			all = nil
		}
		got, err := put(b)
		CheckBytes(t, call, got, err, all, wantErr)
	}
}

// Of is a tensor of a shape.
func Of(s []int, data ...int) api.Tensor {
	return api.Tensor{Shape: s, Data: data}
}

// Row is a tensor of one side.
func Row(data ...int) api.Tensor {
	return Of([]int{len(data)}, data...)
}

// Filled is the tensor of s whose numbers are those of a list, gone through again and again.
func Filled(s []int, numbers ...int) api.Tensor {
	t := Of(s)
	for place := range shape.Size(s) {
		t.Data = append(t.Data, numbers[place%len(numbers)])
	}
	return t
}

// Counted is the tensor of s whose numbers rise by 1 from one on.
func Counted(s []int, from int) api.Tensor {
	t := Of(s)
	for place := range shape.Size(s) {
		t.Data = append(t.Data, from+place)
	}
	return t
}

// Lists are all of up to so many of these, the shortest ahead.
func Lists[E any](long int, of ...E) [][]E {
	all, ahead := [][]E{nil}, [][]E{nil}
	for range long {
		var longer [][]E
		for _, l := range ahead {
			for _, e := range of {
				longer = append(longer, append(slices.Clone(l), e))
			}
		}
		ahead = longer
		all = append(all, longer...)
	}
	return all
}

// Shapes are all that may be, with sides as long as these.
func Shapes(sides ...int) [][]int {
	return slices.DeleteFunc(Lists(api.MaxDims, sides...), func(s []int) bool { return !shape.Check(s) })
}

// WrongShapes may not be: sides too short, or too long, or too many, or too many numbers, some of which wrap round.
func WrongShapes() [][]int {
	return [][]int{
		{0}, {-1}, {17}, {64}, {2, 0}, {-1, -1}, {-2, -2}, {5, 13}, {16, 16, 16}, {1, 1, 1, 1}, {2, 1, 1, 1},
		{1 << 32, 1 << 32}, {1 << 62, 4}, {Least}, {Most}, {Most, Most, 1},
	}
}

// WrongTensors may not be: too few numbers, or too many, or a shape that may not be.
func WrongTensors() []api.Tensor {
	all := []api.Tensor{
		{}, Of([]int{}), Of(nil, 1, 2), Of([]int{1}), Of([]int{1}, 1, 2), Of([]int{2}, 1), Of([]int{2}, 1, 2, 3),
		Of([]int{2, 3}, 1, 2, 3, 4, 5), Of([]int{2, 3}, 1, 2, 3, 4, 5, 6, 7), Of([]int{2}, make([]int, 100000)...),
		Of([]int{4, 4, 4}, make([]int, 63)...), Of([]int{4, 4, 4}, make([]int, 65)...),
		Of([]int{17}, make([]int, 17)...), Of([]int{5, 13}, make([]int, 65)...),
	}
	for _, s := range WrongShapes() {
		all = append(all, Of(s), Of(s, 1))
	}
	return all
}

// Beside are bytes to stand ahead, and behind: none, some, and many.
func Beside() [][]byte {
	return [][]byte{nil, {}, {0}, {255}, {1, 2, 3}, bytes.Repeat([]byte{7, 0}, 300)}
}

// Indices are those of s, the least ahead.
func Indices(s []int) [][]int {
	var all [][]int
	for place := range shape.Size(s) {
		index, _ := shape.Index(s, place)
		all = append(all, index)
	}
	return all
}

// Overwrite changes all of a list, and of its spare room, to find what else shares them.
func Overwrite[E int | byte](l []E) {
	for i := range l[:cap(l)] {
		l[:cap(l)][i] -= 99
	}
}

// Apart holds that a call answers what it is to, again when its answer was written over, and that what was handed in is left as it was.
func Apart(t Teller, call string, answer func() (api.Tensor, api.Errno), want api.Tensor, handed ...[]int) {
	t.Helper()
	before := slices.Concat(handed...)
	for range 2 {
		got, err := answer()
		Check(t, call, got, err, want, api.OK)
		Overwrite(got.Shape)
		Check(t, call+", its shape written over", Of(want.Shape, got.Data...), err, want, api.OK)
		Overwrite(got.Data)
		if !slices.Equal(slices.Concat(handed...), before) {
			t.Errorf("%s: what was handed in is now %v, not %v", call, handed, before)
		}
	}
}

// Changed is a list as Overwrite leaves it.
func Changed[E int | byte](l []E) []E {
	l = slices.Clone(l)
	Overwrite(l)
	return l
}

// Answer is bytes that a call answered, and what they are to be.
type Answer struct{ Got, Want []byte }

// BytesApart holds answers against what they are to be, and writes each over, which no other may have.
func BytesApart(t Teller, all []Answer) {
	t.Helper()
	for _, a := range all {
		CheckBytes(t, "answer", a.Got, api.OK, a.Want, api.OK)
		Overwrite(a.Got)
	}
	for _, a := range all {
		CheckBytes(t, "answer that was written over", a.Got, api.OK, Changed(a.Want), api.OK)
	}
}

// ListsApart holds lists that one call answered against what they are to be, and writes each over, which no other may have.
func ListsApart(t Teller, got, want [][]int) {
	t.Helper()
	if len(got) != len(want) {
		t.Errorf("%d lists; want %d", len(got), len(want))
		return
	}
	for i, l := range got {
		if !slices.Equal(l, want[i]) {
			t.Errorf("list %d, those ahead written over, is %v; want %v", i, l, want[i])
		}
		Overwrite(l)
	}
	for i, l := range got {
		if !slices.Equal(l, Changed(want[i])) {
			t.Errorf("list %d, written over, is %v; want %v", i, l, Changed(want[i]))
		}
	}
}
