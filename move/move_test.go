package move_test

import (
	"slices"
	"testing"

	"fuller/api"
	"fuller/move"
	"fuller/sample"
	"fuller/shape"
	"fuller/tensor"
)

const (
	least = sample.Least
	most  = sample.Most
)

var of, row, counted, check = sample.Of, sample.Row, sample.Counted, sample.Check

// shapes are some of no side to three.
func shapes() [][]int {
	return sample.Shapes(1, 2, 3, 5, 15, 16)
}

// places are numbers that tell an axis, a place on a side, or a side: all that may be, some beside them, and some far off.
func places() []int {
	all := []int{least, least + 1, least + 16, -1 << 32, 1 << 32, 1<<32 + 1, 1 << 62, most - 16, most - 1, most}
	for n := -3; n <= api.MaxSide+3; n++ {
		all = append(all, n)
	}
	return all
}

// with is a list with another number at a place.
func with(l []int, at, n int) []int {
	changed := slices.Clone(l)
	changed[at] = n
	return changed
}

// P5.1
func TestReshape(t *testing.T) {
	for _, c := range []struct {
		from []int
		data []int
		to   []int
	}{
		{nil, []int{7}, []int{}}, {nil, []int{7}, []int{1}}, {nil, []int{7}, []int{1, 1, 1}}, {[]int{1, 1}, []int{least}, nil},
		{[]int{6}, []int{6, 1, 5, 2, 4, 3}, []int{2, 3}}, {[]int{2, 3}, []int{6, 1, 5, 2, 4, 3}, []int{3, 2}},
		{[]int{2, 3}, []int{6, 1, 5, 2, 4, 3}, []int{2, 3}}, {[]int{3, 1, 2}, []int{0, most, 0, least, -1, 1}, []int{6}},
	} {
		got, err := move.Reshape(of(c.from, c.data...), c.to)
		check(t, "Reshape", got, err, of(c.to, c.data...), api.OK)
	}
}

// P5.1: on all pairs of some shapes, which have one size, or not, and to such as may not be.
func TestReshapeAll(t *testing.T) {
	for _, from := range shapes() {
		x := counted(from, 10)
		for _, s := range append(shapes(), sample.WrongShapes()...) {
			want, wantErr := of(s, x.Data...), api.OK
			if !shape.Check(s) || shape.Size(s) != shape.Size(from) {
				want, wantErr = api.Tensor{}, api.ErrShape
			}
			got, err := move.Reshape(x, s)
			check(t, "Reshape", got, err, want, wantErr)
		}
	}
}

// P5.1
func TestTurn(t *testing.T) {
	for _, c := range []struct{ t, want api.Tensor }{
		{of(nil, 7), of(nil, 7)},
		{of([]int{}, least), of(nil, least)},
		{row(3, 1, 2), row(3, 1, 2)},
		{of([]int{2, 3}, 1, 2, 3, 4, 5, 6), of([]int{3, 2}, 1, 4, 2, 5, 3, 6)},
		{of([]int{1, 3}, 1, 2, 3), of([]int{3, 1}, 1, 2, 3)},
		{of([]int{2, 2}, 0, most, least, 0), of([]int{2, 2}, 0, least, most, 0)},
		{of([]int{2, 2, 2}, 1, 2, 3, 4, 5, 6, 7, 8), of([]int{2, 2, 2}, 1, 5, 3, 7, 2, 6, 4, 8)},
		{of([]int{1, 2, 3}, 1, 2, 3, 4, 5, 6), of([]int{3, 2, 1}, 1, 4, 2, 5, 3, 6)},
		{of([]int{2, 1, 3}, 1, 2, 3, 4, 5, 6), of([]int{3, 1, 2}, 1, 4, 2, 5, 3, 6)},
	} {
		got, err := move.Turn(c.t)
		check(t, "Turn", got, err, c.want, api.OK)
	}
}

// P5.1: on some shapes, index by index.
func TestTurnAll(t *testing.T) {
	for _, s := range shapes() {
		x := counted(s, 10)
		got, err := move.Turn(x)
		if err != api.OK || !tensor.Check(got) || len(got.Shape) != len(s) {
			t.Fatalf("Turn of %v: %v, %d", s, got, err)
		}
		for axis, side := range s {
			if got.Shape[len(s)-1-axis] != side {
				t.Errorf("%v turned is of %v", s, got.Shape)
			}
		}
		for _, index := range sample.Indices(s) {
			var back []int
			for _, n := range index {
				back = append([]int{n}, back...)
			}
			n, _ := tensor.At(x, index)
			if m, err := tensor.At(got, back); m != n || err != api.OK {
				t.Errorf("%v turned has %d at %v, not %d", s, m, back, n)
			}
		}
	}
}

// P5.2
func TestSlice(t *testing.T) {
	table := of([]int{2, 3}, 1, 2, 3, 4, 5, 6)
	cube := counted([]int{2, 2, 2}, 1)
	for _, c := range []struct {
		t              api.Tensor
		axis, from, to int
		want           api.Tensor
	}{
		{row(5, 6, 7), 0, 0, 1, row(5)},
		{row(5, 6, 7), 0, 1, 3, row(6, 7)},
		{row(5, 6, 7), 0, 0, 3, row(5, 6, 7)},
		{row(least), 0, 0, 1, row(least)},
		{table, 0, 1, 2, of([]int{1, 3}, 4, 5, 6)},
		{table, 1, 0, 2, of([]int{2, 2}, 1, 2, 4, 5)},
		{table, 1, 2, 3, of([]int{2, 1}, 3, 6)},
		{cube, 0, 1, 2, of([]int{1, 2, 2}, 5, 6, 7, 8)},
		{cube, 1, 0, 1, of([]int{2, 1, 2}, 1, 2, 5, 6)},
		{cube, 2, 1, 2, of([]int{2, 2, 1}, 2, 4, 6, 8)},
	} {
		got, err := move.Slice(c.t, c.axis, c.from, c.to)
		check(t, "Slice", got, err, c.want, api.OK)
	}
}

// sliced is Slice, written by the promise's words.
func sliced(x api.Tensor, axis, from, to int) (api.Tensor, api.Errno) {
	if axis < 0 || axis >= len(x.Shape) || from < 0 || from >= to || to > x.Shape[axis] {
		return api.Tensor{}, api.ErrShape
	}
	want := of(with(x.Shape, axis, to-from))
	for _, index := range sample.Indices(want.Shape) {
		n, _ := tensor.At(x, with(index, axis, index[axis]+from))
		want.Data = append(want.Data, n)
	}
	return want, api.OK
}

// placed is Slice, or Pad, or one of them by its promise's words.
type placed func(x api.Tensor, axis, m, n int) (api.Tensor, api.Errno)

// everywhere holds a call against words on some shapes, at each axis, that which there is not too, and all pairs of places.
func everywhere(t *testing.T, call, words placed) {
	t.Helper()
	for _, s := range shapes() {
		x := counted(s, 10)
		for axis := -1; axis <= len(s); axis++ {
			for _, m := range places() {
				for _, n := range places() {
					want, wantErr := words(x, axis, m, n)
					got, err := call(x, axis, m, n)
					check(t, "at places", got, err, want, wantErr)
				}
			}
		}
	}
}

// P5.2: on some shapes, at places that may not be too.
func TestSliceAll(t *testing.T) {
	everywhere(t, move.Slice, sliced)
}

// P5.3
func TestPad(t *testing.T) {
	column, cube := of([]int{2, 1}, 7, 8), of([]int{1, 2, 1}, least, most)
	for _, c := range []struct {
		t                api.Tensor
		axis, from, side int
		want             api.Tensor
	}{
		{row(5), 0, 0, 1, row(5)},
		{row(5), 0, 0, 3, row(5, 0, 0)},
		{row(5), 0, 1, 3, row(0, 5, 0)},
		{row(5), 0, 2, 3, row(0, 0, 5)},
		{row(5, 6), 0, 1, 4, row(0, 5, 6, 0)},
		{row(5, 6), 0, 14, 16, row(0, 0, 0, 0, 0, 0, 0, 0, 0, 0, 0, 0, 0, 0, 5, 6)},
		{column, 0, 0, 3, of([]int{3, 1}, 7, 8, 0)},
		{column, 0, 1, 3, of([]int{3, 1}, 0, 7, 8)},
		{column, 1, 2, 4, of([]int{2, 4}, 0, 0, 7, 0, 0, 0, 8, 0)},
		{column, 1, 0, 1, column},
		{cube, 0, 1, 2, of([]int{2, 2, 1}, 0, 0, least, most)},
		{cube, 2, 1, 2, of([]int{1, 2, 2}, 0, least, 0, most)},
		{cube, 1, 0, 4, of([]int{1, 4, 1}, least, most, 0, 0)},
	} {
		got, err := move.Pad(c.t, c.axis, c.from, c.side)
		check(t, "Pad", got, err, c.want, api.OK)
	}
}

// padded is Pad, written by the promise's words: all is 0, then t's numbers are laid in.
func padded(x api.Tensor, axis, from, side int) (api.Tensor, api.Errno) {
	if axis < 0 || axis >= len(x.Shape) || from < 0 || from > api.MaxSide || from+x.Shape[axis] > side {
		return api.Tensor{}, api.ErrShape
	}
	want, err := tensor.Full(with(x.Shape, axis, side), 0)
	if err != api.OK {
		return api.Tensor{}, api.ErrShape
	}
	for place, index := range sample.Indices(x.Shape) {
		want, _ = tensor.With(want, with(index, axis, index[axis]+from), x.Data[place])
	}
	return want, api.OK
}

// P5.3: on some shapes, to places and sides that may not be too.
func TestPadAll(t *testing.T) {
	everywhere(t, move.Pad, padded)
}

// P5.4
func TestJoin(t *testing.T) {
	for _, c := range []struct {
		a, b api.Tensor
		axis int
		want api.Tensor
	}{
		{row(1), row(2), 0, row(1, 2)},
		{row(1, 2), row(most, least, 0), 0, row(1, 2, most, least, 0)},
		{of([]int{2, 3}, 1, 2, 3, 4, 5, 6), of([]int{2, 1}, 7, 8), 1, of([]int{2, 4}, 1, 2, 3, 7, 4, 5, 6, 8)},
		{of([]int{2, 1}, 7, 8), of([]int{2, 3}, 1, 2, 3, 4, 5, 6), 1, of([]int{2, 4}, 7, 1, 2, 3, 8, 4, 5, 6)},
		{of([]int{1, 2}, 7, 8), of([]int{2, 2}, 1, 2, 3, 4), 0, of([]int{3, 2}, 7, 8, 1, 2, 3, 4)},
		{of([]int{2, 1, 2}, 1, 2, 3, 4), of([]int{2, 1, 2}, 5, 6, 7, 8), 0, of([]int{4, 1, 2}, 1, 2, 3, 4, 5, 6, 7, 8)},
		{of([]int{2, 1, 2}, 1, 2, 3, 4), of([]int{2, 1, 2}, 5, 6, 7, 8), 1, of([]int{2, 2, 2}, 1, 2, 5, 6, 3, 4, 7, 8)},
		{of([]int{2, 1, 2}, 1, 2, 3, 4), of([]int{2, 1, 2}, 5, 6, 7, 8), 2, of([]int{2, 1, 4}, 1, 2, 5, 6, 3, 4, 7, 8)},
		{counted([]int{15, 1}, 1), of([]int{1, 1}, 16), 0, counted([]int{16, 1}, 1)},
		{counted([]int{10, 4}, 1), counted([]int{6, 4}, 41), 0, counted([]int{16, 4}, 1)},
	} {
		got, err := move.Join(c.a, c.b, c.axis)
		check(t, "Join", got, err, c.want, api.OK)
	}
}

// P5.4: shapes of which one is not laid behind the other.
func TestJoinWrong(t *testing.T) {
	for _, c := range []struct {
		a, b []int
		axis int
	}{
		{nil, nil, 0}, {nil, []int{1}, 0}, {[]int{1}, nil, 0}, {nil, nil, -1}, // a number has no side
		{[]int{2}, []int{2}, 1}, {[]int{2}, []int{2}, -1}, {[]int{2, 2}, []int{2, 2}, 2}, {[]int{2}, []int{2}, least}, {[]int{2}, []int{2}, most}, // no such side
		{[]int{2}, []int{2, 1}, 0}, {[]int{2, 1}, []int{2}, 0}, {[]int{2}, []int{1, 2}, 0}, {[]int{2, 2}, []int{2}, 1}, {[]int{2}, []int{2, 2}, 1}, {[]int{2, 1}, []int{2, 1, 1}, 0}, // not as many
		{[]int{2, 3}, []int{2, 1}, 0}, {[]int{2, 1}, []int{2, 3}, 0}, {[]int{2, 3}, []int{3, 3}, 1}, {[]int{2, 2, 2}, []int{2, 2, 1}, 1}, {[]int{1, 2, 2}, []int{2, 2, 2}, 1}, // another one is not as long
		{[]int{16}, []int{1}, 0}, {[]int{8, 1}, []int{9, 1}, 0}, {[]int{1, 16}, []int{1, 16}, 1}, // too long a side
		{[]int{5, 8}, []int{5, 5}, 1}, {[]int{4, 4, 4}, []int{1, 4, 4}, 0}, {[]int{16, 3}, []int{16, 2}, 1}, {[]int{9, 5}, []int{4, 5}, 0}, // too many numbers
	} {
		got, err := move.Join(counted(c.a, 1), counted(c.b, 1), c.axis)
		check(t, "Join", got, err, api.Tensor{}, api.ErrShape)
	}
}

// joined is Join, written by the promise's words.
func joined(a, b api.Tensor, axis int) (api.Tensor, api.Errno) {
	if axis < 0 || axis >= len(a.Shape) || len(a.Shape) != len(b.Shape) {
		return api.Tensor{}, api.ErrShape
	}
	for i, side := range a.Shape {
		if i != axis && side != b.Shape[i] {
			return api.Tensor{}, api.ErrShape
		}
	}
	want := of(with(a.Shape, axis, a.Shape[axis]+b.Shape[axis]))
	if !shape.Check(want.Shape) {
		return api.Tensor{}, api.ErrShape
	}
	for _, index := range sample.Indices(want.Shape) {
		n, err := tensor.At(a, index)
		if err != api.OK {
			n, _ = tensor.At(b, with(index, axis, index[axis]-a.Shape[axis]))
		}
		want.Data = append(want.Data, n)
	}
	return want, api.OK
}

// P5.4: on all pairs of some shapes, each axis, that which neither has too.
func TestJoinAll(t *testing.T) {
	for _, s := range shapes() {
		for _, r := range shapes() {
			for axis := -1; axis <= api.MaxDims; axis++ {
				a, b := counted(s, 10), counted(r, 100)
				want, wantErr := joined(a, b, axis)
				got, err := move.Join(a, b, axis)
				check(t, "Join", got, err, want, wantErr)
			}
		}
	}
}

// P5.1 to P5.4: a tensor that may not be, which is told ahead of shapes and places.
func TestTensorWrong(t *testing.T) {
	wrong := func(call string, got api.Tensor, err api.Errno) {
		t.Helper()
		check(t, call, got, err, api.Tensor{}, api.ErrTensor)
	}
	for _, x := range sample.WrongTensors() {
		got, err := move.Turn(x)
		wrong("Turn", got, err)
		for _, s := range append(sample.WrongShapes(), nil, []int{1}, []int{2}, x.Shape) {
			got, err = move.Reshape(x, s)
			wrong("Reshape", got, err)
		}
		for axis := -1; axis <= len(x.Shape); axis++ {
			for _, from := range []int{least, -1, 0, 1, most} {
				for _, n := range []int{least, -1, 0, 1, 2, 3, 17, most} {
					got, err = move.Slice(x, axis, from, n)
					wrong("Slice", got, err)
					got, err = move.Pad(x, axis, from, n)
					wrong("Pad", got, err)
				}
			}
			for _, y := range append(sample.WrongTensors(), of(nil, 1), row(1), row(1, 2), of([]int{2, 1}, 1, 2)) {
				got, err = move.Join(x, y, axis)
				wrong("Join", got, err)
				got, err = move.Join(y, x, axis)
				wrong("Join", got, err)
			}
		}
	}
}

// P5.5: turned twice a tensor is itself.
func TestTurnedTwice(t *testing.T) {
	for _, s := range shapes() {
		x := counted(s, -5)
		once, err := move.Turn(x)
		check(t, "size", row(len(once.Data)), err, row(len(x.Data)), api.OK)
		twice, err := move.Turn(once)
		check(t, "Turn", twice, err, x, api.OK)
	}
}

// P5.5: a tensor is joined of its parts; a part that is laid back, and cut again, is itself.
func TestParts(t *testing.T) {
	for _, s := range shapes() {
		x := counted(s, -5)
		for axis, side := range s {
			for cut := 1; cut < side; cut++ {
				ahead, _ := move.Slice(x, axis, 0, cut)
				behind, _ := move.Slice(x, axis, cut, side)
				got, err := move.Join(ahead, behind, axis)
				check(t, "Join of parts", got, err, x, api.OK)
			}
			for from := range side {
				for to := from + 1; to <= side; to++ {
					part, _ := move.Slice(x, axis, from, to)
					back, err := move.Pad(part, axis, from, side)
					check(t, "shape of what is laid back", of(back.Shape), err, of(s), api.OK)
					got, err := move.Slice(back, axis, from, to)
					check(t, "Slice of what was laid back", got, err, part, api.OK)
				}
			}
		}
	}
}

// R4: what is handed in is left as it was, its spare room too, and shares nothing with what is answered.
func TestMemory(t *testing.T) {
	sides, data, other := []int{2, 1, 7, 7}, []int{5, 6, 8, 8}, []int{2, 3, 9, 9}
	x := of(sides[:2], data[:2]...)
	// Some are what x was: they are new memory all the same.
	calls := []struct {
		want   api.Tensor
		answer func() (api.Tensor, api.Errno)
	}{
		{of([]int{2, 1}, 5, 6), func() (api.Tensor, api.Errno) { return move.Reshape(x, x.Shape) }},
		{row(5, 6), func() (api.Tensor, api.Errno) { return move.Reshape(x, other[:1]) }},
		{of([]int{1, 2}, 5, 6), func() (api.Tensor, api.Errno) { return move.Turn(x) }},
		{row(2, 3), func() (api.Tensor, api.Errno) { return move.Turn(of(sides[:1], other[:2]...)) }},
		{of([]int{2, 1}, 5, 6), func() (api.Tensor, api.Errno) { return move.Slice(x, 0, 0, 2) }},
		{of([]int{1, 1}, 6), func() (api.Tensor, api.Errno) { return move.Slice(x, 0, 1, 2) }},
		{of([]int{2, 1}, 5, 6), func() (api.Tensor, api.Errno) { return move.Pad(x, 1, 0, 1) }},
		{of([]int{2, 2}, 0, 5, 0, 6), func() (api.Tensor, api.Errno) { return move.Pad(x, 1, 1, 2) }},
		{of([]int{4, 1}, 5, 6, 5, 6), func() (api.Tensor, api.Errno) { return move.Join(x, x, 0) }},
		{of([]int{2, 2}, 5, 2, 6, 3), func() (api.Tensor, api.Errno) { return move.Join(x, of(sides[:2], other[:2]...), 1) }},
		{of(nil, 5), func() (api.Tensor, api.Errno) { return move.Reshape(of(sides[1:2], data[:1]...), sides[:0]) }},
	}
	for _, c := range calls {
		sample.Apart(t, "answer", c.answer, c.want, sides, data, other)
	}
}
