package matmul_test

import (
	"testing"

	"fuller/api"
	"fuller/fix"
	"fuller/matmul"
	"fuller/move"
	"fuller/sample"
	"fuller/shape"
	"fuller/tensor"
)

const (
	one   = api.One
	least = sample.Least
	most  = sample.Most
)

var of, row, filled, counted, check = sample.Of, sample.Row, sample.Filled, sample.Counted, sample.Check

// multiplied is a call of two tensors, or the same by its promise's words.
type multiplied func(x, y api.Tensor) (api.Tensor, api.Errno)

// call is one with its words.
type call struct {
	name        string
	call, words multiplied
}

func calls() []call {
	return []call{{"Mul", matmul.Mul, product}, {"Left", matmul.Left, left}, {"Right", matmul.Right, right}}
}

// shapes are some of no side to three.
func shapes() [][]int {
	return sample.Shapes(1, 2, 3, 5, 15, 16)
}

// tables are all shapes of two sides.
func tables() [][]int {
	var all [][]int
	for rows := 1; rows <= api.MaxSide; rows++ {
		for columns := 1; columns <= min(api.MaxSide, api.MaxSize/rows); columns++ {
			all = append(all, []int{rows, columns})
		}
	}
	return all
}

// fitting are all shapes of two tables that have a product.
func fitting() [][2][]int {
	var all [][2][]int
	for _, s := range tables() {
		for columns := 1; columns <= min(api.MaxSide, api.MaxSize/s[0], api.MaxSize/s[1]); columns++ {
			all = append(all, [2][]int{s, {s[1], columns}})
		}
	}
	return all
}

// pairs are two tensors of these shapes: rising, falling, floored on the way, and with numbers so great that products, or sums of them, may be too great.
func pairs(s, r []int) [][2]api.Tensor {
	return [][2]api.Tensor{
		{counted(s, -7), counted(r, one)},
		{filled(s, one, -one/2, 3*one), filled(r, 2*one, one/4, -5*one, 7)},
		{filled(s, 1, -1, one/2, -one/3, 0), filled(r, -1, 1, -1)},
		{filled(s, 1<<40, -1<<40, 3), filled(r, 1<<53, 1<<54, -1<<54)},
		{filled(s, one, -one, 0), filled(r, most, least+1, 5)},
		{filled(s, one), filled(r, least)},
		{filled(s, least), filled(r, one)},
		{filled(s, one, -1), filled(r, most, 1, 0)},
	}
}

// product is Mul, written by the promise's words.
func product(a, b api.Tensor) (api.Tensor, api.Errno) {
	if len(a.Shape) != 2 || len(b.Shape) != 2 || a.Shape[1] != b.Shape[0] || !shape.Check([]int{a.Shape[0], b.Shape[1]}) {
		return api.Tensor{}, api.ErrShape
	}
	want := of([]int{a.Shape[0], b.Shape[1]})
	for _, index := range sample.Indices(want.Shape) {
		sum := 0
		for k := range a.Shape[1] {
			x, _ := tensor.At(a, []int{index[0], k})
			y, _ := tensor.At(b, []int{k, index[1]})
			n, err := fix.Mul(x, y)
			if err != api.OK {
				return api.Tensor{}, err
			}
			if sum, err = fix.Add(sum, n); err != api.OK {
				return api.Tensor{}, err
			}
		}
		want.Data = append(want.Data, sum)
	}
	return want, api.OK
}

// left is Left, written by the promise's words.
func left(g, b api.Tensor) (api.Tensor, api.Errno) {
	if len(b.Shape) != 2 {
		return api.Tensor{}, api.ErrShape
	}
	return product(g, turned(b))
}

// right is Right, written by the promise's words.
func right(a, g api.Tensor) (api.Tensor, api.Errno) {
	if len(a.Shape) != 2 {
		return api.Tensor{}, api.ErrShape
	}
	return product(turned(a), g)
}

func turned(x api.Tensor) api.Tensor {
	back, _ := move.Turn(x)
	return back
}

// unit is the table of so many rows that has One where row and column are one.
func unit(rows int) api.Tensor {
	return filled([]int{rows, rows}, append([]int{one}, make([]int, rows)...)...)
}

// rows are what a call is handed, and what it is to answer.
type rows []struct{ x, y, want api.Tensor }

// held holds a call against rows.
func held(t *testing.T, name string, call multiplied, all rows) {
	t.Helper()
	for _, r := range all {
		got, err := call(r.x, r.y)
		check(t, name, got, err, r.want, api.OK)
	}
}

// cell is a table of one number.
func cell(n int) api.Tensor {
	return of([]int{1, 1}, n)
}

// across is a table of one row, down one of one column.
func across(line ...int) api.Tensor { return of([]int{1, len(line)}, line...) }
func down(line ...int) api.Tensor   { return of([]int{len(line), 1}, line...) }

// P7.1
func TestMul(t *testing.T) {
	held(t, "Mul", matmul.Mul, rows{
		{across(one, 2*one), down(3*one, 4*one), cell(11 * one)},
		{down(3*one, 4*one), across(one, 2*one), of([]int{2, 2}, 3*one, 6*one, 4*one, 8*one)},
		{cell(3 * one), cell(-one / 2), cell(-3 * one / 2)},
		{
			of([]int{2, 3}, one, 2*one, 3*one, 4*one, 5*one, 6*one),
			of([]int{3, 2}, 7, 8, 9, 10, 11, 12),
			of([]int{2, 2}, 58, 64, 139, 154),
		},
		{
			of([]int{3, 2}, 7, 8, 9, 10, 11, 12),
			of([]int{2, 3}, one, 2*one, 3*one, 4*one, 5*one, 6*one),
			of([]int{3, 3}, 39, 54, 69, 49, 68, 87, 59, 82, 105),
		},
		{of([]int{2, 2}, one, one, 0, one), of([]int{2, 2}, one, 0, one, one), of([]int{2, 2}, 2*one, one, one, one)},
		// each product is floored, not their sum
		{cell(-1), cell(1), cell(-1)},
		{across(-1, -1, -1), down(1, 1, 1), cell(-3)},
		{across(1, 1), down(one/2, one/2), cell(0)},
		{across(1, -1), down(one/2, one/2), cell(-1)},
		// as great as may be, and too great on no way
		{cell(most), cell(one), cell(most)},
		{cell(one), cell(least), cell(least)},
		{across(one, one), down(most, least), cell(-1)},
		{across(-one, one), down(1, least+1), cell(least)},
		{across(-1, most, 1), down(one, one, one), cell(most)},
		{across(1<<47, -1<<47), down(1<<47, 1<<47), cell(0)},
		// as many as may be
		{filled([]int{1, 16}, one), counted([]int{16, 1}, 1), cell(136)},
		{filled([]int{16, 1}, one), counted([]int{1, 4}, 1), filled([]int{16, 4}, 1, 2, 3, 4)},
		{filled([]int{4, 16}, one), filled([]int{16, 4}, one), filled([]int{4, 4}, 16*one)},
		{filled([]int{8, 8}, one), filled([]int{8, 8}, -one), filled([]int{8, 8}, -8*one)},
	})
}

// P7.2: Left has the Shape of the table ahead, Right that of the one behind.
func TestBack(t *testing.T) {
	a := of([]int{2, 3}, one, 2*one, 3*one, 4*one, 5*one, 6*one)
	b := down(7*one, 8*one, 9*one)
	g := down(one, -one)
	held(t, "Left", matmul.Left, rows{
		{g, b, of([]int{2, 3}, 7*one, 8*one, 9*one, -7*one, -8*one, -9*one)},
		{cell(3), cell(2 * one), cell(6)},
		{across(1, 2), of([]int{3, 2}, one, 0, 0, one, one, one), across(1, 2, 3)},
		{cell(one), down(most, least), across(most, least)},
		{filled([]int{16, 1}, one), counted([]int{4, 1}, 1), filled([]int{16, 4}, 1, 2, 3, 4)},
	})
	held(t, "Right", matmul.Right, rows{
		{a, g, down(-3*one, -3*one, -3*one)},
		{cell(2 * one), cell(3), cell(6)},
		{of([]int{2, 3}, one, 0, one, 0, one, one), down(1, 2), down(1, 2, 3)},
		{across(most, least), cell(one), down(most, least)},
		{counted([]int{1, 16}, 1), across(one, 2*one), of([]int{16, 2},
			1, 2, 2, 4, 3, 6, 4, 8, 5, 10, 6, 12, 7, 14, 8, 16, 9, 18, 10, 20, 11, 22, 12, 24, 13, 26, 14, 28, 15, 30, 16, 32)},
	})
	for _, f := range fitting() {
		a, b := counted(f[0], 1), counted(f[1], 1)
		g := counted([]int{f[0][0], f[1][1]}, one)
		want, _ := left(g, b)
		got, err := matmul.Left(g, b)
		check(t, "Left", got, err, of(a.Shape, want.Data...), api.OK)
		want, _ = right(a, g)
		got, err = matmul.Right(a, g)
		check(t, "Right", got, err, of(b.Shape, want.Data...), api.OK)
	}
}

// P7.1: all tables that have a product, of numbers that are floored, or too great, or not.
func TestFitting(t *testing.T) {
	told := map[api.Errno]int{}
	for _, f := range fitting() {
		for _, p := range pairs(f[0], f[1]) {
			want, wantErr := product(p[0], p[1])
			got, err := matmul.Mul(p[0], p[1])
			check(t, "Mul", got, err, want, wantErr)
			told[err]++
		}
	}
	if told[api.OK] == 0 || told[api.ErrOver] == 0 {
		t.Errorf("answers are %v", told)
	}
}

// P7.1, P7.2: on all pairs of some shapes: tables, as many columns as rows or not, products with too many numbers, and what is no table.
func TestShapes(t *testing.T) {
	told := map[api.Errno]int{}
	all := append(shapes(), tables()...)
	for _, s := range all {
		for _, r := range all {
			x, y := counted(s, one), counted(r, -3*one)
			for _, c := range calls() {
				want, wantErr := c.words(x, y)
				got, err := c.call(x, y)
				check(t, c.name, got, err, want, wantErr)
				told[err]++
			}
		}
	}
	if told[api.OK] == 0 || told[api.ErrShape] == 0 {
		t.Errorf("answers are %v", told)
	}
}

// P7.1, P7.2: what is no table, or does not fit, which is told ahead of products that are too great.
func TestShapeWrong(t *testing.T) {
	for _, c := range []struct {
		name string
		call multiplied
		s, r []int
	}{
		{"Mul, too few sides", matmul.Mul, []int{2}, []int{2, 1}}, {"Mul, too few sides", matmul.Mul, []int{1, 2}, []int{2}},
		{"Mul, no sides", matmul.Mul, nil, []int{1, 1}}, {"Mul, no sides", matmul.Mul, []int{1, 1}, nil},
		{"Mul, no sides", matmul.Mul, nil, nil}, {"Mul, too few sides", matmul.Mul, []int{2}, []int{2}},
		{"Mul, too many sides", matmul.Mul, []int{1, 1, 2}, []int{2, 1}}, {"Mul, too many sides", matmul.Mul, []int{1, 2}, []int{2, 1, 1}},
		{"Mul, too many sides", matmul.Mul, []int{2, 2, 2}, []int{2, 2, 2}},
		{"Mul, two and three", matmul.Mul, []int{1, 2}, []int{3, 1}}, {"Mul, three and two", matmul.Mul, []int{2, 3}, []int{2, 3}},
		{"Mul, one and more", matmul.Mul, []int{2, 1}, []int{2, 2}}, {"Mul, more and one", matmul.Mul, []int{2, 2}, []int{1, 2}},
		{"Mul, too many numbers", matmul.Mul, []int{16, 1}, []int{1, 5}}, {"Mul, too many numbers", matmul.Mul, []int{13, 1}, []int{1, 5}},
		{"Mul, too many numbers", matmul.Mul, []int{16, 4}, []int{4, 16}},
		{"Left, too few sides", matmul.Left, []int{1, 1}, []int{1}}, {"Left, no sides", matmul.Left, []int{1, 1}, nil},
		{"Left, too many sides", matmul.Left, []int{1, 1}, []int{1, 1, 1}}, {"Left of no table", matmul.Left, []int{1}, []int{1, 1}},
		{"Left of no table", matmul.Left, []int{1, 1, 1}, []int{1, 1}}, {"Left of no tables", matmul.Left, []int{2}, []int{2}},
		{"Left, rows for columns", matmul.Left, []int{1, 2}, []int{2, 1}}, {"Left, too many numbers", matmul.Left, []int{16, 1}, []int{5, 1}},
		{"Right, too few sides", matmul.Right, []int{1}, []int{1, 1}}, {"Right, no sides", matmul.Right, nil, []int{1, 1}},
		{"Right, too many sides", matmul.Right, []int{1, 1, 1}, []int{1, 1}}, {"Right of no table", matmul.Right, []int{1, 1}, []int{1}},
		{"Right of no table", matmul.Right, []int{1, 1}, []int{1, 1, 1}}, {"Right of no tables", matmul.Right, []int{2}, []int{2}},
		{"Right, columns for rows", matmul.Right, []int{1, 2}, []int{2, 1}}, {"Right, too many numbers", matmul.Right, []int{1, 16}, []int{1, 5}},
	} {
		got, err := c.call(filled(c.s, most), filled(c.r, most))
		check(t, c.name, got, err, api.Tensor{}, api.ErrShape)
	}
}

// P7.1, P7.2: wherever a number has an error, of a product, or of a sum though it would be less again, nothing else is told.
func TestOver(t *testing.T) {
	for _, c := range []struct{ line, by []int }{
		{[]int{1 << 48}, []int{1 << 48}}, {[]int{least}, []int{-one}}, {[]int{most}, []int{one + 2}}, {[]int{most}, []int{most}}, {[]int{least}, []int{least}},
		{[]int{0, most}, []int{0, 2 * one}}, {[]int{1 << 48, -1 << 48}, []int{1 << 48, 1 << 48}}, {[]int{-1 << 48, 1 << 48}, []int{1 << 48, 1 << 48}},
		{[]int{most, 1}, []int{one, one}}, {[]int{1, most}, []int{one, one}}, {[]int{least, -1}, []int{one, one}}, {[]int{-1, least}, []int{one, one}},
		{[]int{most, 1, -1}, []int{one, one, one}}, {[]int{least, 1, -1}, []int{one, -one, -one}}, {[]int{1, most, -1}, []int{one, one, one}},
		{[]int{1 << 62, 1 << 62, -1 << 62}, []int{one, one, one}}, {[]int{least, 1}, []int{one, -1}},
	} {
		n := len(c.line)
		for count := 1; count*count <= api.MaxSize; count++ {
			for wrong := range count {
				// All other numbers of the product are 0.
				a, b := filled([]int{count, n}, 0), filled([]int{n, count}, 0)
				copy(a.Data[wrong*n:], c.line)
				for k, by := range c.by {
					b.Data[k*count+wrong] = by
				}
				got, err := matmul.Mul(a, b)
				check(t, "Mul", got, err, api.Tensor{}, api.ErrOver)
				got, err = matmul.Left(a, turned(b))
				check(t, "Left", got, err, api.Tensor{}, api.ErrOver)
				got, err = matmul.Right(turned(a), b)
				check(t, "Right", got, err, api.Tensor{}, api.ErrOver)
			}
		}
	}
}

// P7.1, P7.2: a tensor that may not be, which is told ahead of shapes and products.
func TestTensorWrong(t *testing.T) {
	wrong := append(sample.WrongTensors(),
		of([]int{2, 2}, most, most, most), of([]int{1, 1}), of([]int{1, 1}, most, most), of([]int{16, 16}, make([]int, 256)...),
		of([]int{0, 0}), of([]int{1, 0}), of([]int{0, 1}, 1), of([]int{-1, -1}, 1), of([]int{1, 17}, make([]int, 17)...))
	beside := append(wrong, of(nil, 1), row(1), row(most, most), cell(1), cell(most), of([]int{1, 1, 1}, 1), filled([]int{2, 2}, most), across(1, 2), down(1, 2))
	for _, x := range wrong {
		for _, y := range beside {
			for _, c := range calls() {
				got, err := c.call(x, y)
				check(t, c.name, got, err, api.Tensor{}, api.ErrTensor)
				got, err = c.call(y, x)
				check(t, c.name, got, err, api.Tensor{}, api.ErrTensor)
			}
		}
	}
}

// P7.3: by the table that has One where row and column are one a product is the other table.
func TestUnit(t *testing.T) {
	for _, s := range tables() {
		for _, x := range []api.Tensor{counted(s, -20), counted(s, one), filled(s, most, least), filled(s, least), filled(s, -1, 0, 1)} {
			if s[0]*s[0] <= api.MaxSize {
				got, err := matmul.Mul(unit(s[0]), x)
				check(t, "unit ahead", got, err, x, api.OK)
				got, err = matmul.Right(unit(s[0]), x)
				check(t, "Right of unit", got, err, x, api.OK)
			}
			if s[1]*s[1] <= api.MaxSize {
				got, err := matmul.Mul(x, unit(s[1]))
				check(t, "unit behind", got, err, x, api.OK)
				got, err = matmul.Left(x, unit(s[1]))
				check(t, "Left by unit", got, err, x, api.OK)
			}
		}
	}
}

// P7.3: turned, a product is that of both turned, the second one first; or it is too great both ways.
func TestTurned(t *testing.T) {
	for _, f := range fitting() {
		for _, p := range pairs(f[0], f[1]) {
			a, b := p[0], p[1]
			want, wantErr := matmul.Mul(a, b)
			got, err := matmul.Left(a, turned(b))
			check(t, "Left by b turned", got, err, want, wantErr)
			got, err = matmul.Right(turned(a), b)
			check(t, "Right of a turned", got, err, want, wantErr)
			got, err = matmul.Mul(turned(b), turned(a))
			if err == api.OK {
				got = turned(got)
			}
			check(t, "Mul of both turned", got, err, want, wantErr)
		}
	}
}

// R4: what is handed in is left as it was, its spare room too, and shares nothing with what is answered.
func TestMemory(t *testing.T) {
	sides, data := []int{2, 2, 7, 7}, []int{5, 6, 7, 8, 9, 9}
	units, ones := []int{2, 2, 7}, []int{one, 0, 0, one, 9}
	x, y := of(sides[:2], data[:4]...), of(units[:2], ones[:4]...)
	same := of([]int{2, 2}, 5, 6, 7, 8)
	// Most have x's numbers: they are new memory all the same.
	for _, c := range []struct {
		name   string
		want   api.Tensor
		answer func() (api.Tensor, api.Errno)
	}{
		{"Mul", same, func() (api.Tensor, api.Errno) { return matmul.Mul(x, y) }},
		{"Mul, unit ahead", same, func() (api.Tensor, api.Errno) { return matmul.Mul(y, x) }},
		{"Mul of itself", filled([]int{2, 2}, 0), func() (api.Tensor, api.Errno) { return matmul.Mul(x, x) }},
		{"Left", same, func() (api.Tensor, api.Errno) { return matmul.Left(x, y) }},
		{"Left of unit", of([]int{2, 2}, 5, 7, 6, 8), func() (api.Tensor, api.Errno) { return matmul.Left(y, x) }},
		{"Right", of([]int{2, 2}, 5, 7, 6, 8), func() (api.Tensor, api.Errno) { return matmul.Right(x, y) }},
		{"Right of unit", same, func() (api.Tensor, api.Errno) { return matmul.Right(y, x) }},
	} {
		sample.Apart(t, c.name, c.answer, c.want, sides, data, units, ones)
	}
}
