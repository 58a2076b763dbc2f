package reduce_test

import (
	"slices"
	"testing"

	"fuller/api"
	"fuller/fix"
	"fuller/reduce"
	"fuller/sample"
	"fuller/shape"
	"fuller/tensor"
)

const (
	one   = api.One
	least = sample.Least
	most  = sample.Most
)

var of, row, filled, counted, check = sample.Of, sample.Row, sample.Filled, sample.Counted, sample.Check

// taken is a call that takes a side together, or the same by its promise's words.
type taken func(x api.Tensor, axis int) (api.Tensor, api.Errno)

// call is one with its words.
type call struct {
	name        string
	call, words taken
}

func calls() []call {
	return []call{{"Sum", reduce.Sum, summed}, {"Mean", reduce.Mean, middle}, {"Max", reduce.Max, greatest}, {"First", reduce.First, first}}
}

// shapes are some of no side to three.
func shapes() [][]int {
	return sample.Shapes(1, 2, 3, 5, 15, 16)
}

// axes are those of any shape, some beside them, and some far off.
func axes() []int {
	return []int{least, least + 1, -1 << 32, -2, -1, 0, 1, 2, 3, 4, 5, 1 << 32, 1<<32 + 1, 1 << 62, most - 1, most}
}

// tensors are of a shape: rising, falling, all one, with the least and the greatest numbers, with sums that are too great at some places, or on the way only.
func tensors(s []int) []api.Tensor {
	return []api.Tensor{
		counted(s, -7), counted(s, one), filled(s, 9, 7, 5, 3, 1, -1, -3), filled(s, -1), filled(s, 0, 0, 5, 5, 0), filled(s, 3, 1, 2, 3, 1),
		filled(s, most), filled(s, least), filled(s, most, least), filled(s, least, most, 0), filled(s, most, 1, -1, 0, 0, 0, 0), filled(s, -1, 2, most/2, -5),
	}
}

// lines are x's numbers at each index without the side at axis, by the chapter's words, and that index' shape.
func lines(x api.Tensor, axis int) (s []int, all [][]int) {
	s = without(x.Shape, axis)
	for _, index := range sample.Indices(s) {
		var line []int
		for i := range x.Shape[axis] {
			n, _ := tensor.At(x, put(index, axis, i))
			line = append(line, n)
		}
		all = append(all, line)
	}
	return s, all
}

// without is a list without what stands at a place.
func without(l []int, at int) []int {
	return slices.Concat(l[:at], l[at+1:])
}

// put is a list with a number put in at a place.
func put(l []int, at, n int) []int {
	return slices.Concat(l[:at], []int{n}, l[at:])
}

// summed is Sum, written by the promise's words.
func summed(x api.Tensor, axis int) (api.Tensor, api.Errno) {
	s, all := lines(x, axis)
	want := of(s)
	for _, line := range all {
		sum := 0
		for _, n := range line {
			var err api.Errno
			if sum, err = fix.Add(sum, n); err != api.OK {
				return api.Tensor{}, err
			}
		}
		want.Data = append(want.Data, sum)
	}
	return want, api.OK
}

// middle is Mean, written by the promise's words.
func middle(x api.Tensor, axis int) (api.Tensor, api.Errno) {
	want, err := summed(x, axis)
	for place, sum := range want.Data {
		want.Data[place], _ = fix.Div(sum, x.Shape[axis]*one)
	}
	return want, err
}

// greatest is Max, written by the promise's words.
func greatest(x api.Tensor, axis int) (api.Tensor, api.Errno) {
	s, all := lines(x, axis)
	want := of(s)
	for _, line := range all {
		want.Data = append(want.Data, slices.Max(line))
	}
	return want, api.OK
}

// first is First, written by the promise's words: all is 0, then One is laid in.
func first(x api.Tensor, axis int) (api.Tensor, api.Errno) {
	s, all := lines(x, axis)
	want := filled(x.Shape, 0)
	for place, line := range all {
		index, _ := shape.Index(s, place)
		want, _ = tensor.With(want, put(index, axis, slices.Index(line, slices.Max(line))), one)
	}
	return want, api.OK
}

// rows are what a call is handed, and what it is to answer.
type rows []struct {
	t    api.Tensor
	axis int
	want api.Tensor
}

// held holds a call against rows.
func held(t *testing.T, name string, call taken, all rows) {
	t.Helper()
	for _, r := range all {
		got, err := call(r.t, r.axis)
		check(t, name, got, err, r.want, api.OK)
	}
}

// P6.1
func TestSum(t *testing.T) {
	held(t, "Sum", reduce.Sum, rows{
		{of([]int{2, 2}, 1, 5, 3, 4), 0, row(4, 9)},
		{of([]int{2, 2}, 1, 5, 3, 4), 1, row(6, 7)},
		{row(1, 2, 3), 0, of(nil, 6)},
		{row(-5), 0, of([]int{}, -5)},
		{of([]int{2, 3}, 1, 2, 3, 10, 20, 30), 0, row(11, 22, 33)},
		{of([]int{2, 3}, 1, 2, 3, 10, 20, 30), 1, row(6, 60)},
		{counted([]int{2, 2, 2}, 1), 0, of([]int{2, 2}, 6, 8, 10, 12)},
		{counted([]int{2, 2, 2}, 1), 1, of([]int{2, 2}, 4, 6, 12, 14)},
		{counted([]int{2, 2, 2}, 1), 2, of([]int{2, 2}, 3, 7, 11, 15)},
		{counted([]int{1, 2, 3}, 1), 1, of([]int{1, 3}, 5, 7, 9)},
		{counted([]int{3, 1, 2}, 1), 0, of([]int{1, 2}, 9, 12)},
		{counted([]int{16}, 1), 0, of(nil, 136)},
		// as great as may be, and too great on no way
		{row(most, least), 0, of(nil, -1)},
		{row(most-1, 1), 0, of(nil, most)},
		{row(least+1, -1), 0, of(nil, least)},
		{row(-1, most, 1), 0, of(nil, most)},
		{row(most), 0, of(nil, most)},
		{row(least), 0, of(nil, least)},
	})
}

// P6.1
func TestMean(t *testing.T) {
	held(t, "Mean", reduce.Mean, rows{
		{of([]int{2, 2}, 1, 5, 3, 4), 0, row(2, 4)},
		{of([]int{2, 2}, 1, 5, 3, 4), 1, row(3, 3)},
		{row(one, 2*one, 3*one), 0, of(nil, 2*one)},
		{row(one, 0, 0), 0, of(nil, 1431655765)},
		// floored, not cut off
		{row(-1, 0), 0, of(nil, -1)},
		{row(0, 0, -1), 0, of(nil, -1)},
		{row(1, 1, 0), 0, of(nil, 0)},
		{row(-one, 0, 0), 0, of(nil, -1431655766)},
		{row(-1, -1, -1, -2), 0, of(nil, -2)},
		{row(-2, -2), 0, of(nil, -2)},
		// as great as may be
		{row(most), 0, of(nil, most)},
		{row(least), 0, of(nil, least)},
		{row(most, least), 0, of(nil, -1)},
		{row(most, 0), 0, of(nil, most/2)},
		{row(0, least), 0, of(nil, least/2)},
		{filled([]int{16}, one), 0, of(nil, one)},
		{filled([]int{1, 16, 2}, 3, -3), 1, of([]int{1, 2}, 3, -3)},
	})
}

// P6.1: wherever a sum is too great, on the way too, that is told, of Mean as well, whose answer would be less.
func TestSumWrong(t *testing.T) {
	for _, line := range [][]int{
		{most, 1}, {1, most}, {least, -1}, {-1, least}, {most, most}, {least, least}, {most, 1, -1}, {least, -1, 1},
		{1, most, -1}, {-1, least, 1}, {most - 1, 1, 1, -5}, {most/2 + 1, most/2 + 1}, {1 << 62, 1 << 62, -1 << 62},
	} {
		for count := 1; count <= min(api.MaxSide, api.MaxSize/len(line)); count++ {
			for wrong := range count {
				x := filled([]int{count, len(line)}, 1)
				copy(x.Data[wrong*len(line):], line)
				y := filled([]int{len(line), count}, 1)
				for i, n := range line {
					y.Data[i*count+wrong] = n
				}
				for _, call := range []taken{reduce.Sum, reduce.Mean} {
					got, err := call(x, 1)
					check(t, "along rows", got, err, api.Tensor{}, api.ErrOver)
					got, err = call(y, 0)
					check(t, "along columns", got, err, api.Tensor{}, api.ErrOver)
				}
			}
		}
	}
}

// P6.2
func TestMax(t *testing.T) {
	held(t, "Max", reduce.Max, rows{
		{of([]int{2, 2}, 1, 5, 3, 4), 0, row(3, 5)},
		{of([]int{2, 2}, 1, 5, 3, 4), 1, row(5, 4)},
		{row(1, 3, 2), 0, of(nil, 3)},
		{row(-1, -3, -2), 0, of(nil, -1)},
		{row(-5), 0, of(nil, -5)},
		{row(least), 0, of(nil, least)},
		{row(least, least), 0, of(nil, least)},
		{row(least, most, 0), 0, of(nil, most)},
		{row(most, most), 0, of(nil, most)},
		{row(0, 0, -1), 0, of(nil, 0)},
		{counted([]int{2, 2, 2}, 1), 0, of([]int{2, 2}, 5, 6, 7, 8)},
		{counted([]int{2, 2, 2}, 1), 1, of([]int{2, 2}, 3, 4, 7, 8)},
		{counted([]int{2, 2, 2}, 1), 2, of([]int{2, 2}, 2, 4, 6, 8)},
	})
}

// P6.2
func TestFirst(t *testing.T) {
	held(t, "First", reduce.First, rows{
		{of([]int{2, 2}, 1, 5, 3, 4), 0, of([]int{2, 2}, 0, one, one, 0)},
		{of([]int{2, 2}, 1, 5, 3, 4), 1, of([]int{2, 2}, 0, one, 0, one)},
		{row(1, 3, 2), 0, row(0, one, 0)},
		{row(-2, -1, -3), 0, row(0, one, 0)},
		{row(-5), 0, row(one)},
		{row(least), 0, row(one)},
		// the first one of those that are the greatest, and only that
		{row(3, 3), 0, row(one, 0)},
		{row(1, 3, 2, 3, 3), 0, row(0, one, 0, 0, 0)},
		{row(least, least, least), 0, row(one, 0, 0)},
		{row(least, most, most), 0, row(0, one, 0)},
		{row(0, 0, 0, 1), 0, row(0, 0, 0, one)},
		{filled([]int{2, 2, 2}, 7), 0, of([]int{2, 2, 2}, one, one, one, one, 0, 0, 0, 0)},
		{filled([]int{2, 2, 2}, 7), 1, of([]int{2, 2, 2}, one, one, 0, 0, one, one, 0, 0)},
		{filled([]int{2, 2, 2}, 7), 2, of([]int{2, 2, 2}, one, 0, one, 0, one, 0, one, 0)},
		{filled([]int{2, 1}, 4, 4), 1, of([]int{2, 1}, one, one)},
	})
}

// P6.1, P6.2: on some shapes, at each axis.
func TestAll(t *testing.T) {
	for _, s := range shapes() {
		for _, x := range tensors(s) {
			for axis := range s {
				for _, c := range calls() {
					want, wantErr := c.words(x, axis)
					got, err := c.call(x, axis)
					check(t, c.name, got, err, want, wantErr)
				}
			}
		}
	}
}

// P6.1, P6.2: an axis at which there is no side, which is told ahead of sums that are too great.
func TestAxisWrong(t *testing.T) {
	for _, s := range shapes() {
		for _, x := range []api.Tensor{counted(s, 1), filled(s, most), filled(s, least)} {
			for _, axis := range append(axes(), len(s)) {
				if axis >= 0 && axis < len(s) {
					continue
				}
				for _, c := range calls() {
					got, err := c.call(x, axis)
					check(t, c.name, got, err, api.Tensor{}, api.ErrShape)
				}
			}
		}
	}
}

// P6.3
func TestGrow(t *testing.T) {
	table := of([]int{2, 3}, 1, 2, 3, 4, 5, 6)
	for _, c := range []struct {
		t          api.Tensor
		axis, side int
		want       api.Tensor
	}{
		{of(nil, 7), 0, 1, row(7)},
		{of([]int{}, least), 0, 3, row(least, least, least)},
		{of(nil, most), 0, 16, filled([]int{16}, most)},
		{row(1, 2), 0, 3, of([]int{3, 2}, 1, 2, 1, 2, 1, 2)},
		{row(1, 2), 1, 3, of([]int{2, 3}, 1, 1, 1, 2, 2, 2)},
		{row(1, 2), 0, 1, of([]int{1, 2}, 1, 2)},
		{row(1, 2), 1, 1, of([]int{2, 1}, 1, 2)},
		{table, 0, 2, of([]int{2, 2, 3}, 1, 2, 3, 4, 5, 6, 1, 2, 3, 4, 5, 6)},
		{table, 1, 2, of([]int{2, 2, 3}, 1, 2, 3, 1, 2, 3, 4, 5, 6, 4, 5, 6)},
		{table, 2, 2, of([]int{2, 3, 2}, 1, 1, 2, 2, 3, 3, 4, 4, 5, 5, 6, 6)},
		{filled([]int{4, 4}, 5, 6), 1, 4, filled([]int{4, 4, 4}, 5, 6)},
	} {
		got, err := reduce.Grow(c.t, c.axis, c.side)
		check(t, "Grow", got, err, c.want, api.OK)
	}
}

// grown is Grow, written by the promise's words.
func grown(x api.Tensor, axis, side int) (api.Tensor, api.Errno) {
	if axis < 0 || axis > len(x.Shape) || !shape.Check(put(x.Shape, axis, side)) {
		return api.Tensor{}, api.ErrShape
	}
	want := of(put(x.Shape, axis, side))
	for _, index := range sample.Indices(want.Shape) {
		n, _ := tensor.At(x, without(index, axis))
		want.Data = append(want.Data, n)
	}
	return want, api.OK
}

// P6.3: on some shapes, at axes and to sides that may not be too: too long, too many, or too many numbers.
func TestGrowAll(t *testing.T) {
	sides := []int{least, -1 << 32, -1, 1 << 32, 1<<32 + 1, 1 << 62, most - 1, most}
	for side := range api.MaxSize + 2 {
		sides = append(sides, side)
	}
	for _, s := range shapes() {
		x := counted(s, -5)
		for _, axis := range axes() {
			for _, side := range sides {
				want, wantErr := grown(x, axis, side)
				got, err := reduce.Grow(x, axis, side)
				check(t, "Grow", got, err, want, wantErr)
			}
		}
	}
}

// P6.1 to P6.3: a tensor that may not be, which is told ahead of axes, sides and sums.
func TestTensorWrong(t *testing.T) {
	wrong := append(sample.WrongTensors(), of([]int{3}, most, most), of([]int{2, 2}, least, least, least))
	for _, x := range wrong {
		for _, axis := range append(axes(), len(x.Shape)) {
			for _, c := range calls() {
				got, err := c.call(x, axis)
				check(t, c.name, got, err, api.Tensor{}, api.ErrTensor)
			}
			for _, side := range []int{least, -1, 0, 1, 2, 16, 17, most} {
				got, err := reduce.Grow(x, axis, side)
				check(t, "Grow", got, err, api.Tensor{}, api.ErrTensor)
			}
		}
	}
}

// P6.4: what was grown, and is added, is so many times itself; its mean, and its greatest, are itself.
func TestGrownAdded(t *testing.T) {
	for _, s := range shapes() {
		for side := 1; side <= api.MaxSide; side++ {
			x := counted(s, -20)
			times := of(s)
			for _, n := range x.Data {
				times.Data = append(times.Data, side*n)
			}
			for axis := 0; axis <= len(s); axis++ {
				wide, err := reduce.Grow(x, axis, side)
				if err != api.OK {
					continue
				}
				sum, err := reduce.Sum(wide, axis)
				check(t, "Sum", sum, err, times, api.OK)
				mean, err := reduce.Mean(wide, axis)
				check(t, "Mean", mean, err, x, api.OK)
				high, err := reduce.Max(wide, axis)
				check(t, "Max", high, err, x, api.OK)
			}
		}
	}
}

// P6.4: a side of one is taken together to itself, and is grown again to what it was.
func TestSideOfOne(t *testing.T) {
	for _, s := range shapes() {
		for axis, side := range s {
			if side != 1 {
				continue
			}
			for _, x := range []api.Tensor{counted(s, -20), filled(s, most, least), filled(s, least)} {
				for _, c := range calls()[:3] {
					got, err := c.call(x, axis)
					check(t, c.name, got, err, of(without(s, axis), x.Data...), api.OK)
					back, err := reduce.Grow(got, axis, 1)
					check(t, "Grow", back, err, x, api.OK)
				}
				got, err := reduce.First(x, axis)
				check(t, "First", got, err, filled(s, one), api.OK)
			}
		}
	}
}

// R4: what is handed in is left as it was, its spare room too, and shares nothing with what is answered.
func TestMemory(t *testing.T) {
	sides, data := []int{2, 1, 7, 7}, []int{5, 6, 8, 8}
	x := of(sides[:2], data[:2]...)
	// Some have x's numbers: they are new memory all the same.
	answers := []struct {
		want   api.Tensor
		answer func() (api.Tensor, api.Errno)
	}{
		{row(11), func() (api.Tensor, api.Errno) { return reduce.Sum(x, 0) }},
		{row(5, 6), func() (api.Tensor, api.Errno) { return reduce.Sum(x, 1) }},
		{row(5), func() (api.Tensor, api.Errno) { return reduce.Mean(x, 0) }},
		{row(5, 6), func() (api.Tensor, api.Errno) { return reduce.Mean(x, 1) }},
		{row(6), func() (api.Tensor, api.Errno) { return reduce.Max(x, 0) }},
		{row(5, 6), func() (api.Tensor, api.Errno) { return reduce.Max(x, 1) }},
		{of([]int{2, 1}, 0, one), func() (api.Tensor, api.Errno) { return reduce.First(x, 0) }},
		{of([]int{2, 1}, one, one), func() (api.Tensor, api.Errno) { return reduce.First(x, 1) }},
		{of([]int{1, 2, 1}, 5, 6), func() (api.Tensor, api.Errno) { return reduce.Grow(x, 0, 1) }},
		{of([]int{2, 2, 1}, 5, 5, 6, 6), func() (api.Tensor, api.Errno) { return reduce.Grow(x, 1, 2) }},
		{of([]int{2, 1, 1}, 5, 6), func() (api.Tensor, api.Errno) { return reduce.Grow(x, 2, 1) }},
		{row(5, 5), func() (api.Tensor, api.Errno) { return reduce.Grow(of(sides[:0], data[:1]...), 0, 2) }},
		{of(nil, 11), func() (api.Tensor, api.Errno) { return reduce.Sum(of(sides[:1], data[:2]...), 0) }},
	}
	for _, c := range answers {
		sample.Apart(t, "answer", c.answer, c.want, sides, data)
	}
}
