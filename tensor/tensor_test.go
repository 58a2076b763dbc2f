package tensor

import (
	"slices"
	"testing"

	"fuller/api"
	"fuller/fix"
	"fuller/sample"
	"fuller/shape"
)

const (
	least = sample.Least
	most  = sample.Most
)

var of = sample.Of

// counted is the tensor of s whose numbers are 10, 11, 12 ..
func counted(s []int) api.Tensor {
	return sample.Counted(s, 10)
}

// check holds an answer against what it is to be.
func check(t *testing.T, got api.Tensor, err api.Errno, want api.Tensor, wantErr api.Errno) {
	t.Helper()
	sample.Check(t, "answer", got, err, want, wantErr)
}

// shapes are some of no side to three.
func shapes() [][]int {
	return sample.Shapes(1, 2, 3, 4, 16)
}

// P3.1
func TestCheck(t *testing.T) {
	for _, s := range append(shapes(), []int{}, []int{7, 9}, []int{13}, []int{5, 12}) {
		if x := counted(s); !Check(x) {
			t.Errorf("%v may not be", x)
		}
	}
	for _, x := range sample.WrongTensors() {
		if Check(x) {
			t.Errorf("a tensor of %v with %d numbers may be", x.Shape, len(x.Data))
		}
	}
}

// P3.1
func TestFull(t *testing.T) {
	for _, s := range append(shapes(), []int{}, []int{7, 9}, []int{13}) {
		for _, n := range []int{0, 1, -1, api.One, least, most} {
			want := of(s)
			for range shape.Size(s) {
				want.Data = append(want.Data, n)
			}
			got, err := Full(s, n)
			check(t, got, err, want, api.OK)
		}
	}
	for _, s := range sample.WrongShapes() {
		got, err := Full(s, 5)
		check(t, got, err, api.Tensor{}, api.ErrShape)
	}
}

// P3.2
func TestAt(t *testing.T) {
	for _, c := range []struct {
		t     api.Tensor
		index []int
		want  int
	}{
		{of(nil, 7), nil, 7},
		{of([]int{}, 7), []int{}, 7},
		{of([]int{3}, least, 0, most), []int{0}, least},
		{of([]int{3}, least, 0, most), []int{2}, most},
		{of([]int{2, 3}, 1, 2, 3, 4, 5, 6), []int{0, 2}, 3},
		{of([]int{2, 3}, 1, 2, 3, 4, 5, 6), []int{1, 0}, 4},
		{counted([]int{2, 3, 4}), []int{1, 0, 3}, 25},
		{counted([]int{4, 4, 4}), []int{3, 3, 3}, 73},
	} {
		if n, err := At(c.t, c.index); n != c.want || err != api.OK {
			t.Errorf("At(%v, %v) is %d, %d; want %d, OK", c.t, c.index, n, err, c.want)
		}
	}
}

// P3.2: at each index of each shape, in their order, stand the numbers, and With changes that one alone.
func TestEachIndex(t *testing.T) {
	for _, s := range shapes() {
		x := counted(s)
		for place, index := range sample.Indices(s) {
			if n, err := At(x, index); n != 10+place || err != api.OK {
				t.Errorf("At(%v, %v) is %d, %d; want %d, OK", x, index, n, err, 10+place)
			}
			for _, n := range []int{-3, 10 + place, least, most} {
				want := counted(s)
				want.Data[place] = n
				got, err := With(x, index, n)
				check(t, got, err, want, api.OK)
			}
		}
		check(t, x, api.OK, counted(s), api.OK)
	}
}

// P3.2: an index that the tensor has not, and a tensor that may not be, which is told ahead of it.
func TestAtWrong(t *testing.T) {
	both := func(x api.Tensor, index []int, want api.Errno) {
		t.Helper()
		if n, err := At(x, index); n != 0 || err != want {
			t.Errorf("At(%v, %v) is %d, %d; want 0, %d", x, index, n, err, want)
		}
		got, err := With(x, index, 9)
		check(t, got, err, api.Tensor{}, want)
	}
	both(of(nil, 7), []int{0}, api.ErrShape)
	both(of([]int{1}, 7), nil, api.ErrShape)
	for _, index := range [][]int{
		nil, {1}, {1, 1}, {1, 1, 1, 1}, {2, 0, 0}, {0, 3, 0}, {0, 0, 4}, {-1, 0, 0}, {0, -1, 0}, {0, 0, -1},
		{0, 3, -12}, {most, 0, 0}, {0, 0, least}, {1 << 62, 0, 0},
	} {
		both(counted([]int{2, 3, 4}), index, api.ErrShape)
	}
	for _, x := range sample.WrongTensors() {
		both(x, make([]int, len(x.Shape)), api.ErrTensor)
		both(x, nil, api.ErrTensor)
		both(x, []int{-1}, api.ErrTensor)
	}
}

// P3.3
func TestSpread(t *testing.T) {
	for _, c := range []struct{ t, want api.Tensor }{
		{of(nil, 7), of(nil, 7)},
		{of(nil, 7), of([]int{1}, 7)},
		{of(nil, 7), of([]int{3}, 7, 7, 7)},
		{of([]int{1}, most), of([]int{2, 2}, most, most, most, most)},
		{of([]int{3}, 1, 2, 3), of([]int{2, 3}, 1, 2, 3, 1, 2, 3)},
		{of([]int{3, 1}, 1, 2, 3), of([]int{3, 2}, 1, 1, 2, 2, 3, 3)},
		{of([]int{2, 1}, 5, 6), of([]int{2, 2, 3}, 5, 5, 5, 6, 6, 6, 5, 5, 5, 6, 6, 6)},
		{of([]int{2, 1, 2}, 1, 2, 3, 4), of([]int{2, 2, 2}, 1, 2, 1, 2, 3, 4, 3, 4)},
		{of([]int{1, 2, 1}, 1, 2), of([]int{2, 2, 2}, 1, 1, 2, 2, 1, 1, 2, 2)},
		{of([]int{2, 2}, 1, 2, 3, 4), of([]int{2, 2}, 1, 2, 3, 4)},
		{of([]int{2, 2}, least, 2, 3, most), of([]int{1, 2, 2}, least, 2, 3, most)},
	} {
		got, err := Spread(c.t, c.want.Shape)
		check(t, got, err, c.want, api.OK)
	}
}

// P3.4
func TestFold(t *testing.T) {
	for _, c := range []struct{ t, want api.Tensor }{
		{of(nil, 7), of(nil, 7)},
		{of([]int{1}, 7), of(nil, 7)},
		{of([]int{3}, 1, 2, 4), of(nil, 7)},
		{of([]int{3}, 1, 2, 4), of([]int{1}, 7)},
		{of([]int{3}, 1, 2, 4), of([]int{3}, 1, 2, 4)},
		{of([]int{2, 3}, 1, 2, 3, 40, 50, 60), of([]int{3}, 41, 52, 63)},
		{of([]int{2, 3}, 1, 2, 3, 40, 50, 60), of([]int{1, 3}, 41, 52, 63)},
		{of([]int{2, 3}, 1, 2, 3, 40, 50, 60), of([]int{2, 1}, 6, 150)},
		{of([]int{2, 3}, 1, 2, 3, 40, 50, 60), of([]int{1, 1}, 156)},
		{of([]int{2, 2, 2}, 1, 2, 4, 8, 16, 32, 64, 128), of([]int{1, 2, 1}, 51, 204)},
		{of([]int{2, 2, 2}, 1, 2, 4, 8, 16, 32, 64, 128), of([]int{2, 1}, 51, 204)},
		{of([]int{2, 2, 2}, 1, 2, 4, 8, 16, 32, 64, 128), of([]int{2, 1, 2}, 5, 10, 80, 160)},
		{of([]int{2, 2}, most, least, 0, 0), of([]int{2}, most, least)},
		{of([]int{4}, most, least, 1, -1), of(nil, -1)},
	} {
		got, err := Fold(c.t, c.want.Shape)
		check(t, got, err, c.want, api.OK)
	}
}

// P3.4: sums are by rising places, and none on its way may be too great.
func TestFoldOver(t *testing.T) {
	for _, c := range []struct {
		t    api.Tensor
		s    []int
		want api.Tensor
	}{
		{of([]int{3}, -1, most, 1), nil, of(nil, most)},
		{of([]int{3}, 1, least, -1), []int{1}, of([]int{1}, least)},
		{of([]int{3, 2}, -1, 1, most, least, 1, -1), []int{2}, of([]int{2}, most, least)},
		{of([]int{2, 2, 2}, -1, -1, most, 0, 1, 0, 0, 0), []int{1, 1, 1}, of([]int{1, 1, 1}, most-1)},
	} {
		got, err := Fold(c.t, c.s)
		check(t, got, err, c.want, api.OK)
	}
	for _, c := range []struct {
		t api.Tensor
		s []int
	}{
		{of([]int{2}, most, 1), nil},
		{of([]int{2}, least, -1), []int{1}},
		{of([]int{3}, most, 1, -1), nil},
		{of([]int{3}, least, -1, 1), nil},
		{of([]int{3}, 1, most, -1), nil},
		{of([]int{2, 2}, 1, 2, 3, most), []int{2}},
		{of([]int{2, 2}, most, 1, 3, 4), []int{2, 1}},
		{of([]int{2, 2, 2}, 1, 0, 0, 0, 0, most, 0, 0), nil},
		{of([]int{16, 4}, slices.Repeat([]int{1 << 58}, 64)...), nil},
	} {
		got, err := Fold(c.t, c.s)
		check(t, got, err, api.Tensor{}, api.ErrOver)
	}
}

// P3.3, P3.4: shapes that do not fit, and tensors that may not be, which are told ahead of them.
func TestStretchWrong(t *testing.T) {
	both := func(small, great api.Tensor, want api.Errno) {
		t.Helper()
		got, err := Spread(small, great.Shape)
		check(t, got, err, api.Tensor{}, want)
		got, err = Fold(great, small.Shape)
		check(t, got, err, api.Tensor{}, want)
	}
	for _, c := range [][2][]int{
		{{2}, nil}, {{1}, nil}, {{2}, {1}}, {{2}, {3}}, {{2}, {4}}, {{2}, {2, 3}}, {{2, 3}, {3}}, {{1, 3}, {3}},
		{{2, 1}, {1, 4}}, {{2, 1}, {3, 2}}, {{1, 1, 1}, {4, 4}}, {{2, 2, 2}, {2, 2, 1}}, {{16, 1}, {16}},
	} {
		both(counted(c[0]), counted(c[1]), api.ErrShape)
	}
	for _, s := range sample.WrongShapes() {
		for _, x := range []api.Tensor{of(nil, most), of([]int{1}, 2), of([]int{2}, most, most)} {
			got, err := Spread(x, s)
			check(t, got, err, api.Tensor{}, api.ErrShape)
			got, err = Fold(x, s)
			check(t, got, err, api.Tensor{}, api.ErrShape)
		}
	}
	for _, x := range sample.WrongTensors() {
		for _, s := range append(sample.WrongShapes(), nil, []int{2}, []int{3}, x.Shape) {
			got, err := Spread(x, s)
			check(t, got, err, api.Tensor{}, api.ErrTensor)
			got, err = Fold(x, s)
			check(t, got, err, api.Tensor{}, api.ErrTensor)
		}
	}
}

// cameFrom is the index of s that an index comes from, by the chapter's words.
func cameFrom(s, index []int) []int {
	last := slices.Clone(index[len(index)-len(s):])
	for i := range last {
		if s[i] == 1 {
			last[i] = 0
		}
	}
	return last
}

// P3.3: on all pairs of some shapes, index by index.
func TestSpreadAll(t *testing.T) {
	for _, from := range shapes() {
		x := counted(from)
		for _, s := range shapes() {
			want, wantErr := api.Tensor{}, api.ErrShape
			if shape.Fits(from, s) {
				want, wantErr = of(s), api.OK
				for _, index := range sample.Indices(s) {
					n, _ := At(x, cameFrom(from, index))
					want.Data = append(want.Data, n)
				}
			}
			got, err := Spread(x, s)
			check(t, got, err, want, wantErr)
		}
	}
}

// P3.4: on all pairs of some shapes, each sum by itself; some numbers are so great that sums are.
func TestFoldAll(t *testing.T) {
	for _, from := range shapes() {
		for _, great := range []int{1, 1 << 53, 1 << 56, 1 << 58} {
			x := counted(from)
			for i := range x.Data {
				x.Data[i] *= great * (i%3 - 1)
			}
			for _, s := range shapes() {
				want, wantErr := folded(x, s)
				got, err := Fold(x, s)
				check(t, got, err, want, wantErr)
			}
		}
	}
}

// folded is Fold, written by the promise's words: each index of s looks for what comes from it.
func folded(x api.Tensor, s []int) (api.Tensor, api.Errno) {
	if !shape.Fits(s, x.Shape) {
		return api.Tensor{}, api.ErrShape
	}
	want := of(s)
	for _, to := range sample.Indices(s) {
		sum, err := 0, api.OK
		for place, index := range sample.Indices(x.Shape) {
			if slices.Equal(cameFrom(s, index), to) {
				sum, err = fix.Add(sum, x.Data[place])
			}
			if err != api.OK {
				return api.Tensor{}, err
			}
		}
		want.Data = append(want.Data, sum)
	}
	return want, api.OK
}

// P3.5: to its own shape a tensor is what it was; stretched and folded, it is so many times what it was.
func TestThereAndBack(t *testing.T) {
	for _, from := range shapes() {
		x := counted(from)
		got, err := Spread(x, from)
		check(t, got, err, x, api.OK)
		got, err = Fold(x, from)
		check(t, got, err, x, api.OK)
		for _, s := range shapes() {
			stretched, err := Spread(x, s)
			if err != api.OK {
				continue
			}
			want := counted(from)
			for i := range want.Data {
				want.Data[i] *= shape.Size(s) / shape.Size(from)
			}
			got, err := Fold(stretched, from)
			check(t, got, err, want, api.OK)
		}
	}
}

// R4: what is handed in is left as it was, its spare room too, and shares nothing with what is answered.
func TestMemory(t *testing.T) {
	room := []int{2, 1, 7, 7, 7}
	numbers := []int{5, 6, 8, 8, 8}
	wide := []int{2, 3, 9, 9, 9}
	index := []int{1, 0, 6, 6}
	x := of(room[:2], numbers[:2]...)
	answers := func() []api.Tensor {
		Check(x)
		At(x, index[:2])
		full, _ := Full(room[:2], 5)
		with, _ := With(x, index[:2], 4)
		unchanged, _ := With(x, index[:2], 6)
		own, _ := Spread(x, x.Shape)
		spread, _ := Spread(x, wide[:2])
		fold, _ := Fold(x, x.Shape)
		back, _ := Fold(spread, room[1:2])
		bare, _ := Full(wide[:0], 1)
		return []api.Tensor{full, with, unchanged, own, spread, fold, back, bare}
	}
	s := []int{2, 1}
	want := []api.Tensor{
		of(s, 5, 5), of(s, 5, 4), of(s, 5, 6), of(s, 5, 6), of([]int{2, 3}, 5, 5, 5, 6, 6, 6),
		of(s, 5, 6), of([]int{1}, 33), of(nil, 1),
	}
	for range 2 {
		for i, got := range answers() {
			check(t, got, api.OK, want[i], api.OK)
			sample.Overwrite(got.Shape)
			check(t, of(want[i].Shape, got.Data...), api.OK, want[i], api.OK)
			sample.Overwrite(got.Data)
		}
		handed := slices.Concat(room, numbers, wide, index)
		if !slices.Equal(handed, []int{2, 1, 7, 7, 7, 5, 6, 8, 8, 8, 2, 3, 9, 9, 9, 1, 0, 6, 6}) {
			t.Errorf("what was handed in is now %v", handed)
		}
	}
}
