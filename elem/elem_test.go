package elem

import (
	"slices"
	"testing"

	"fuller/api"
	"fuller/fix"
	"fuller/sample"
	"fuller/shape"
	"fuller/tensor"
)

const (
	one   = api.One
	least = sample.Least
	most  = sample.Most
)

var of, row, filled, check = sample.Of, sample.Row, sample.Filled, sample.Check

type (
	alone func(a int) (int, api.Errno)
	both  func(a, b int) (int, api.Errno)
)

// ones are what One's ops do to a number, by the chapter's words.
func ones() map[int]alone {
	return map[int]alone{
		api.ONeg: fix.Neg,
		api.ORelu: func(a int) (int, api.Errno) {
			if a < 0 {
				return 0, api.OK
			}
			return a, api.OK
		},
		api.OPow:  fix.Pow,
		api.OSqrt: fix.Sqrt,
	}
}

// twos are what Two's ops do to two numbers, by the chapter's words.
func twos() map[int]both {
	return map[int]both{api.OAdd: fix.Add, api.OSub: fix.Sub, api.OMul: fix.Mul, api.ODiv: fix.Div}
}

// ops are all of api's, numbers between and beside them, and some that are far off.
func ops() []int {
	all := []int{least, least + api.OAdd, -1 << 32, 1 << 32, 1<<32 + api.OAdd, 1<<32 + api.ONeg, most}
	for op := -60; op <= 60; op++ {
		all = append(all, op)
	}
	return all
}

// numbers are ordinary ones, small ones, and those on either side of which calls go wrong.
func numbers() []int {
	return []int{
		0, 1, -1, 2, -2, one, -one, one + 1, -one - 1, one / 2, -one / 2, 3 * one, -3 * one,
		31 * one, 31*one - 1, -32 * one, -33 * one, 1 << 31, -1 << 31, 1 << 47, -1 << 48, 1 << 62, -1 << 62,
		most, most - 1, least, least + 1,
	}
}

// shapes are some of no side to three, with sides of 1 at each place, and as great as may be.
func shapes() [][]int {
	return [][]int{
		nil, {1}, {2}, {3}, {5}, {16},
		{1, 1}, {1, 2}, {2, 1}, {1, 3}, {3, 1}, {2, 3}, {3, 2}, {1, 5}, {16, 1}, {16, 4}, {5, 12},
		{1, 1, 1}, {2, 1, 1}, {1, 2, 1}, {1, 1, 2}, {2, 3, 1}, {2, 1, 3}, {1, 2, 3}, {2, 3, 2}, {5, 1, 3}, {4, 1, 16}, {4, 4, 4},
	}
}

// P4.1
func TestOne(t *testing.T) {
	for _, c := range []struct {
		call    string
		op      int
		t, want api.Tensor
	}{
		{"Neg", api.ONeg, row(1, -2, 0, most, -most), row(-1, 2, 0, -most, most)},
		{"Neg of one number", api.ONeg, of(nil, one), of(nil, -one)},
		{"Neg of a table", api.ONeg, of([]int{2, 3}, 1, 2, 3, 4, 5, 6), of([]int{2, 3}, -1, -2, -3, -4, -5, -6)},
		{"Neg of three sides", api.ONeg, of([]int{2, 1, 2}, 1, 2, 3, 4), of([]int{2, 1, 2}, -1, -2, -3, -4)},
		{"Relu", api.ORelu, row(1, 0, -1, one, -one, most, least), row(1, 0, 0, one, 0, most, 0)},
		{"Relu of one number", api.ORelu, of([]int{}, -1), of(nil, 0)},
		{"Pow", api.OPow, row(0, one, one+one/2, -one, -1, -33*one, 30*one, least), row(one, 2*one, 3*one, one/2, one-1, 0, 1<<62, 0)},
		{"Pow of a table", api.OPow, of([]int{1, 2}, 3*one, -2*one), of([]int{1, 2}, 8*one, one/4)},
		{"Sqrt", api.OSqrt, row(0, 1, 2, one, 4*one, 4*one-1, 9*one, most), row(0, 1<<16, 92681, one, 2*one, 2*one-1, 3*one, 199032864766430)},
		{"Sqrt of a column", api.OSqrt, of([]int{2, 1}, one/4, one), of([]int{2, 1}, one/2, one)},
	} {
		got, err := One(c.op, c.t)
		check(t, c.call, got, err, c.want, api.OK)
	}
}

// P4.1: wherever a number has an error, that is told, and nothing else.
func TestOneNumberWrong(t *testing.T) {
	for _, c := range []struct {
		op, wrong int
		err       api.Errno
	}{
		{api.ONeg, least, api.ErrOver}, {api.OPow, 31 * one, api.ErrOver}, {api.OPow, most, api.ErrOver},
		{api.OSqrt, -1, api.ErrNeg}, {api.OSqrt, least, api.ErrNeg},
	} {
		for _, s := range shapes() {
			for place := range shape.Size(s) {
				x := filled(s, 1)
				x.Data[place] = c.wrong
				got, err := One(c.op, x)
				check(t, "One", got, err, api.Tensor{}, c.err)
			}
		}
	}
}

// P4.1: each number by itself, and all in each shape.
func TestOneAll(t *testing.T) {
	for op, reckon := range ones() {
		var good []int
		for _, a := range numbers() {
			want, wantErr := api.Tensor{}, api.OK
			if n, err := reckon(a); err != api.OK {
				wantErr = err
			} else {
				want = of(nil, n)
				good = append(good, a)
			}
			got, err := One(op, of(nil, a))
			check(t, "One", got, err, want, wantErr)
		}
		for _, s := range shapes() {
			x := filled(s, good...)
			want := of(s)
			for _, a := range x.Data {
				n, _ := reckon(a)
				want.Data = append(want.Data, n)
			}
			got, err := One(op, x)
			check(t, "One", got, err, want, api.OK)
		}
	}
}

// P4.1, P4.2: an op that may not be is told ahead of all else; One takes none of Two's, nor Two of One's.
func TestOpWrong(t *testing.T) {
	tensors := append(sample.WrongTensors(), of(nil, 1), row(1, 2), row(1, 2, 3), row(-1, least, most), row(0, 0))
	for _, op := range ops() {
		for _, x := range tensors {
			if ones()[op] == nil {
				got, err := One(op, x)
				check(t, "One", got, err, api.Tensor{}, api.ErrArg)
			}
			if twos()[op] != nil {
				continue
			}
			for _, y := range tensors {
				got, err := Two(op, x, y)
				check(t, "Two", got, err, api.Tensor{}, api.ErrArg)
			}
		}
	}
}

// P4.1, P4.2: a tensor that may not be, which is told ahead of shapes, and of numbers.
func TestTensorWrong(t *testing.T) {
	for _, x := range sample.WrongTensors() {
		for op := range ones() {
			got, err := One(op, x)
			check(t, "One", got, err, api.Tensor{}, api.ErrTensor)
		}
		for op := range twos() {
			for _, y := range append(sample.WrongTensors(), of(nil, 0), row(1), row(1, 2, 3), row(least, most, 0, 0)) {
				got, err := Two(op, x, y)
				check(t, "Two", got, err, api.Tensor{}, api.ErrTensor)
				got, err = Two(op, y, x)
				check(t, "Two", got, err, api.Tensor{}, api.ErrTensor)
			}
		}
	}
}

// P4.2
func TestTwo(t *testing.T) {
	table := of([]int{2, 3}, 1, 2, 3, 4, 5, 6)
	for _, c := range []struct {
		call       string
		op         int
		a, b, want api.Tensor
	}{
		{"Add", api.OAdd, row(1, -2, most), row(10, 20, least), row(11, 18, -1)},
		{"Sub", api.OSub, row(1, -2, most), row(10, 20, most), row(-9, -22, 0)},
		{"Mul", api.OMul, row(2*one, -1, least), row(3*one, 1, one), row(6*one, -1, least)},
		{"Div", api.ODiv, row(one, -one, least, 0), row(2*one, 3*one, one, -5), row(1<<31, -1431655766, least, 0)},
		{"Sub of one number", api.OSub, of(nil, 5), of([]int{}, 7), of(nil, -2)},
		{"Sub, the second stretched", api.OSub, row(5, 1), row(2), row(3, -1)},
		{"Sub, the first stretched", api.OSub, row(2), row(5, 1), row(-3, 1)},
		{"Sub, no sides to one", api.OSub, of(nil, 2), row(5), row(-3)},
		{"Add, along rows", api.OAdd, table, row(10, 20, 30), of([]int{2, 3}, 11, 22, 33, 14, 25, 36)},
		{"Add, along columns", api.OAdd, table, of([]int{2, 1}, 10, 20), of([]int{2, 3}, 11, 12, 13, 24, 25, 26)},
		{"Sub, a number from a table", api.OSub, table, of(nil, 1), of([]int{2, 3}, 0, 1, 2, 3, 4, 5)},
		{"Sub, both stretched", api.OSub, of([]int{2, 1}, 1, 2), row(10, 20, 30), of([]int{2, 3}, -9, -19, -29, -8, -18, -28)},
		{"Div, both stretched", api.ODiv, row(one, 4*one), of([]int{2, 1}, 2*one, -one), of([]int{2, 2}, one/2, 2*one, -one, -4*one)},
		{"Mul, both stretched, of three sides", api.OMul, of([]int{2, 1, 2}, 1, 2, 3, 4), of([]int{2, 1}, one, 2*one),
			of([]int{2, 2, 2}, 1, 2, 2, 4, 3, 4, 6, 8)},
		{"Add, to sides of 1", api.OAdd, row(1, 2), of([]int{1, 1, 1}, 10), of([]int{1, 1, 2}, 11, 12)},
	} {
		got, err := Two(c.op, c.a, c.b)
		check(t, c.call, got, err, c.want, api.OK)
	}
}

// P4.2: shapes that are not joined, which is told ahead of numbers.
func TestShapeWrong(t *testing.T) {
	for _, c := range [][2][]int{
		{{2}, {3}}, {{2}, {4}}, {{2, 3}, {2}}, {{2, 3}, {3, 2}}, {{2, 1}, {3, 2}}, {{2, 2, 2}, {2, 3}}, {{3, 1, 1}, {2, 1, 1}}, {{16}, {15}},
		// each may be, and each side fits, but what they are joined to is too great
		{{16, 1}, {5}}, {{13, 1}, {1, 5}}, {{16, 4}, {2, 1, 1}}, {{4, 16}, {4, 1, 1}},
	} {
		for op := range twos() {
			for _, n := range []int{1, 0, least, most} {
				got, err := Two(op, filled(c[0], n), filled(c[1], n))
				check(t, "Two", got, err, api.Tensor{}, api.ErrShape)
				got, err = Two(op, filled(c[1], n), filled(c[0], n))
				check(t, "Two", got, err, api.Tensor{}, api.ErrShape)
			}
		}
	}
}

// P4.2: of several two numbers that have an error the first is told, by its place in what both are stretched to.
func TestTwoNumbersWrong(t *testing.T) {
	for _, c := range []struct {
		call string
		op   int
		a, b api.Tensor
		want api.Errno
	}{
		{"Add", api.OAdd, row(1, most), row(2, 1), api.ErrOver},
		{"Add", api.OAdd, row(least, 1), row(-1), api.ErrOver},
		{"Sub", api.OSub, row(0, 1, 2), row(5, 5, least), api.ErrOver},
		{"Mul", api.OMul, row(1<<48, 1), row(1<<48, 1), api.ErrOver},
		{"Mul, of no sides", api.OMul, of(nil, 1<<47), of(nil, 1<<48), api.ErrOver},
		{"Div, at the end", api.ODiv, row(1, 2, 3), row(1, 1, 0), api.ErrZero},
		{"Div, at the beginning", api.ODiv, row(1, 2, 3), row(0, 1, 1), api.ErrZero},
		{"Div, 0 by 0", api.ODiv, of(nil, 0), of(nil, 0), api.ErrZero},
		{"Div, too great, then by 0", api.ODiv, row(1, most, 1), row(1, 1, 0), api.ErrOver},
		{"Div, by 0, then too great", api.ODiv, row(1, 1, most), row(1, 0, 1), api.ErrZero},
		// by rows the zero is met first, by columns what is too great, and so the other way
		{"Div, first of a row", api.ODiv, of([]int{2, 1}, 1, most), row(1, 0), api.ErrZero},
		{"Div, first of a column", api.ODiv, row(1, most), of([]int{2, 1}, 1, 0), api.ErrOver},
	} {
		got, err := Two(c.op, c.a, c.b)
		check(t, c.call, got, err, api.Tensor{}, c.want)
	}
}

// P4.2: all pairs of some numbers, whose one error is that of fix.
func TestTwoAllNumbers(t *testing.T) {
	for op, reckon := range twos() {
		for _, a := range numbers() {
			for _, b := range numbers() {
				want, wantErr := api.Tensor{}, api.OK
				if n, err := reckon(a, b); err != api.OK {
					wantErr = err
				} else {
					want = of(nil, n)
				}
				got, err := Two(op, of(nil, a), of(nil, b))
				check(t, "Two", got, err, want, wantErr)
			}
		}
	}
}

// P4.2: all pairs of some shapes, of small numbers, and of such that some two have errors.
func TestTwoAllShapes(t *testing.T) {
	for _, s := range shapes() {
		for _, r := range shapes() {
			for op := range twos() {
				for _, c := range [][2]api.Tensor{
					{filled(s, 7, -8, 9, 10*one), filled(r, 2*one, one, -one/2)},
					{filled(s, one, 3, -5, most, 2, least, 0), filled(r, 3, one, 1, -one, 5*one, one, 2, one, 0, one, most)},
				} {
					want, wantErr := reckoned(op, c[0], c[1])
					got, err := Two(op, c[0], c[1])
					check(t, "Two", got, err, want, wantErr)
				}
			}
		}
	}
}

// reckoned is Two, written by the promise's words, index by index.
func reckoned(op int, a, b api.Tensor) (api.Tensor, api.Errno) {
	s, err := shape.Join(a.Shape, b.Shape)
	if err != api.OK {
		return api.Tensor{}, err
	}
	want := of(s)
	for place := range shape.Size(s) {
		index, _ := shape.Index(s, place)
		n, err := twos()[op](stretchedAt(a, index), stretchedAt(b, index))
		if err != api.OK {
			return api.Tensor{}, err
		}
		want.Data = append(want.Data, n)
	}
	return want, api.OK
}

// stretchedAt is the number of x that an index of a greater shape comes from.
func stretchedAt(x api.Tensor, index []int) int {
	last := slices.Clone(index[len(index)-len(x.Shape):])
	for axis, side := range x.Shape {
		last[axis] = min(last[axis], side-1)
	}
	n, _ := tensor.At(x, last)
	return n
}

// P4.3: which is first does not matter to sums and products, where they have an error neither.
func TestFirstOrSecond(t *testing.T) {
	for _, op := range []int{api.OAdd, api.OMul} {
		for _, s := range shapes() {
			for _, r := range shapes() {
				for _, great := range []int{1, 1 << 20, 1 << 60} {
					a, b := filled(s, 3*great, -great, 5*great+1), filled(r, -2*great, 7, great, one, -one)
					want, wantErr := Two(op, a, b)
					got, err := Two(op, b, a)
					check(t, "Two", got, err, want, wantErr)
				}
			}
		}
	}
}

// P4.3: a tensor less itself is 0 throughout, however great its numbers are.
func TestLessItself(t *testing.T) {
	for _, s := range shapes() {
		for from := range numbers() {
			x := filled(s, numbers()[from:]...)
			got, err := Two(api.OSub, x, x)
			check(t, "Two", got, err, filled(s, 0), api.OK)
		}
	}
}

// R4: what is handed in is left as it was, its spare room too, and shares nothing with what is answered.
func TestMemory(t *testing.T) {
	sides, data := []int{2, 1, 7, 7}, []int{5, 6, 8, 8}
	x := of(sides[:2], data[:2]...)
	// Some are what x was: they are new memory all the same.
	calls := []struct {
		want   api.Tensor
		answer func() (api.Tensor, api.Errno)
	}{
		{of([]int{2, 1}, 5, 6), func() (api.Tensor, api.Errno) { return One(api.ORelu, x) }},
		{of([]int{2, 1}, -5, -6), func() (api.Tensor, api.Errno) { return One(api.ONeg, x) }},
		{of([]int{2, 1}, 10, 12), func() (api.Tensor, api.Errno) { return Two(api.OAdd, x, x) }},
		{of([]int{2, 1}, 5, 6), func() (api.Tensor, api.Errno) { return Two(api.OAdd, x, of(nil, 0)) }},
		{of([]int{2, 1}, 5, 6), func() (api.Tensor, api.Errno) { return Two(api.OMul, of(nil, one), x) }},
		{of([]int{2, 2}, 4, 3, 5, 4), func() (api.Tensor, api.Errno) { return Two(api.OSub, x, row(1, 2)) }},
	}
	for _, c := range calls {
		sample.Apart(t, "answer", c.answer, c.want, sides, data)
	}
}
