package vjp_test

import (
	"fmt"
	"slices"
	"testing"

	"fuller/api"
	"fuller/elem"
	"fuller/eval"
	"fuller/fix"
	"fuller/infer"
	"fuller/matmul"
	"fuller/move"
	"fuller/reduce"
	"fuller/sample"
	"fuller/tensor"
	"fuller/vjp"
)

const (
	one   = api.One
	least = sample.Least
	most  = sample.Most
)

var (
	of, with, input, param, number = sample.Node, sample.With, sample.Input, sample.Param, sample.Number
	filled, counted                = sample.Filled, sample.Counted
	cell, row, table, args         = sample.Cell, sample.Row, sample.Table, sample.Tensors
)

// checkBack holds what Back answers against what it is to be.
func checkBack(t *testing.T, n api.Node, args []api.Tensor, out, g api.Tensor, want []api.Tensor, wantErr api.Errno) {
	t.Helper()
	got, err := vjp.Back(n, args, out, g)
	if !slices.EqualFunc(got, want, sample.Same) || err != wantErr {
		t.Errorf("op %d, %d numbers, at first %v, of %d tensors, at first %v, that came to %v, by %v: %v, %d; want %v, %d",
			n.Op, len(n.Nums), n.Nums[:min(len(n.Nums), 5)], len(args), args[:min(len(args), 3)], out, g, got, err, want, wantErr)
	}
}

// turn is what hangs on a node, and what that is turned back to.
type turn struct {
	g    api.Tensor
	want []api.Tensor
}

// turns are one of each op, of the nodes that sample.Fits tells.
func turns() map[int]turn {
	g := table(2, 3, one, 2*one, -one, 4*one, one/2, 3*one)
	below := table(2, 3, -one, -2*one, one, -4*one, -one/2, -3*one)
	alone := func(g api.Tensor, data ...int) turn { return turn{g, args(table(2, 3, data...))} }
	both := func(g api.Tensor, a, b api.Tensor) turn { return turn{g, args(a, b)} }
	return map[int]turn{
		api.OInput: {g, nil},
		api.OParam: {g, nil},
		api.OConst: {cell(7), nil},
		api.OAdd:   both(g, g, g),
		api.OSub:   both(g, g, below),
		api.OMul:   both(g, table(2, 3, 2*one, -2*one, -one, 2*one, 0, -9*one), table(2, 3, one, 4*one, -3*one, 16*one, 2*one+one/2, 18*one)),
		api.ODiv: both(g, table(2, 3, one, one, -1431655766, one, 429496729, one/2),
			table(2, 3, -2*one, one/2, 477218589, -one/8, 0, one/4)),
		api.ONeg:     {g, args(below)},
		api.ORelu:    alone(g, one, 0, -one, 4*one, 0, 0),
		api.OPow:     alone(g, 4*one, one, -2*one, 4*one, one/2, one/4+one/8),
		api.OSqrt:    alone(g, one/2, 3037000500, -1239850263, one, 480191941, 2630119584),
		api.OMatmul:  both(table(2, 1, one, -2*one), table(2, 3, 2*one, -one, one, -4*one, 2*one, -2*one), table(3, 1, -7*one, -8*one, -9*one)),
		api.OReshape: alone(table(3, 2, 1, 2, 3, 4, 5, 6), 1, 2, 3, 4, 5, 6),
		api.OTurn:    alone(table(3, 2, 1, 2, 3, 4, 5, 6), 1, 3, 5, 2, 4, 6),
		api.OSlice:   alone(table(2, 2, 1, 2, 3, 4), 0, 1, 2, 0, 3, 4),
		api.OJoin:    both(table(2, 6, 1, 2, 3, 4, 5, 6, 7, 8, 9, 10, 11, 12), table(2, 3, 1, 2, 3, 7, 8, 9), table(2, 3, 4, 5, 6, 10, 11, 12)),
		api.OSum:     alone(row(1, 2), 1, 1, 1, 2, 2, 2),
		api.OMean:    alone(row(4, -1, 3), 2, -1, 1, 2, -1, 1),
		api.OMax:     alone(row(5, -6), 5, 0, 0, -6, 0, 0),
	}
}

// P14.1: each op, of what fits.
func TestBack(t *testing.T) {
	hung := turns()
	for _, f := range sample.Fits() {
		h := hung[f.N.Op]
		checkBack(t, f.N, f.Args, f.Want, h.g, h.want, api.OK)
	}
	for _, none := range [][]api.Tensor{nil, {}} {
		for _, n := range []int{least, 0, most} {
			checkBack(t, input(), none, cell(3), cell(n), nil, api.OK)
			checkBack(t, input(4, 4, 4), none, counted([]int{4, 4, 4}, 1), filled([]int{4, 4, 4}, n), nil, api.OK)
			checkBack(t, param(7), none, cell(3), cell(n), nil, api.OK)
			checkBack(t, number(n), none, cell(3), cell(n), nil, api.OK)
		}
	}
}

// P14.1: of one tensor: its sides, and the numbers at the ends.
func TestBackOne(t *testing.T) {
	cube := counted([]int{2, 3, 2}, 1)
	ends := row(least, most, 0, -1, 1)
	for _, c := range []struct {
		n               api.Node
		a, out, g, want api.Tensor
	}{
		{of(api.ONeg), cell(5), cell(-5), cell(most), cell(-most)}, {of(api.ONeg), row(most, 0), row(-most, 0), row(-most, 0), row(most, 0)},
		{of(api.ORelu), row(5, -5), row(5, 0), row(7, 7), row(7, 0)}, {of(api.ORelu), row(least, most, 0, -1, 1), ends, ends, row(0, most, 0, 0, 1)}, {of(api.ORelu), row(1, 0, 1, 1, 0), ends, ends, row(least, 0, 0, -1, 0)},
		// to the right of a whole number a power is steeper; a slope may be less than a part
		{of(api.OPow), row(one-1, one, -1, -one-1, 30*one), row(1, 2, 3, 4, 5), row(one, one, 5, -5, one), row(one, 2*one, 2, -2, 1<<62)}, {of(api.OPow), row(least, -33*one, -32*one), row(1, 2, 3), row(most, least, most), row(0, 0, 1<<31-1)},
		// whether a has a root, and whether that is out, does not matter
		{of(api.OSqrt), row(-one, 4*one, least), row(2*one, -2*one, 1), row(one, one, 1), row(one/4, -one/4, one/2)}, {of(api.OSqrt), cell(0), cell(1<<62 - 1), cell(most), cell(one)}, {of(api.OSqrt), cell(0), cell(-1 << 62), cell(least), cell(one)}, {of(api.OSqrt), cell(1), cell(one), cell(-1), cell(-1)},
		{with(of(api.OReshape)), row(7), cell(7), cell(least), row(least)}, {with(of(api.OReshape), 1, 1), cell(7), table(1, 1, 7), table(1, 1, most), cell(most)}, {with(of(api.OReshape), 12), cube, counted([]int{12}, 1), counted([]int{12}, 5), counted([]int{2, 3, 2}, 5)},
		{of(api.OTurn), cell(7), cell(7), cell(least), cell(least)}, {of(api.OTurn), row(1, 2), row(1, 2), row(most, 3), row(most, 3)}, {of(api.OTurn), cube, cube, cube, sample.Of([]int{2, 3, 2}, 1, 7, 3, 9, 5, 11, 2, 8, 4, 10, 6, 12)},
		{with(of(api.OSlice), 0, 0, 3), row(1, 2, 3), row(1, 2, 3), row(least, 5, most), row(least, 5, most)}, {with(of(api.OSlice), 0, 2, 3), row(1, 2, 3), row(3), row(-1), row(0, 0, -1)}, {with(of(api.OSlice), 0, 0, 1), row(1, 2, 3), row(1), row(-1), row(-1, 0, 0)},
		{with(of(api.OSlice), 1, 1, 2), cube, sample.Of([]int{2, 1, 2}, 3, 4, 9, 10), sample.Of([]int{2, 1, 2}, 5, 6, 7, 8), sample.Of([]int{2, 3, 2}, 0, 0, 5, 6, 0, 0, 0, 0, 7, 8, 0, 0)},
		{with(of(api.OSum), 0), row(1, 2), cell(3), cell(least), row(least, least)}, {with(of(api.OSum), 1), cube, counted([]int{2, 2}, 1), table(2, 2, 5, 6, 7, 8), sample.Of([]int{2, 3, 2}, 5, 6, 5, 6, 5, 6, 7, 8, 7, 8, 7, 8)},
		{with(of(api.OSum), 2), sample.Of([]int{1, 2, 1}, 1, 2), table(1, 2, 1, 2), table(1, 2, most, -1), sample.Of([]int{1, 2, 1}, most, -1)},
		{with(of(api.OMean), 0), row(1, 2, 3), cell(2), cell(-1), row(-1, -1, -1)}, {with(of(api.OMean), 0), row(1, 2), cell(2), cell(least), row(least/2, least/2)}, {with(of(api.OMean), 0), row(9), cell(9), cell(most), row(most)}, {with(of(api.OMean), 1), filled([]int{1, 16}, 1), row(1), row(most), filled([]int{1, 16}, most/16)},
		{with(of(api.OMean), 2), cube, counted([]int{2, 3}, 1), table(2, 3, 1, 2, 3, -1, -2, -3), sample.Of([]int{2, 3, 2}, 0, 0, 1, 1, 1, 1, -1, -1, -1, -1, -2, -2)},
		// of equal numbers the first one
		{with(of(api.OMax), 0), row(least, least), cell(least), cell(least), row(least, 0)}, {with(of(api.OMax), 0), row(1, most, most), cell(most), cell(most), row(0, most, 0)}, {with(of(api.OMax), 0), table(2, 2, 1, 4, 3, 4), row(3, 4), row(-1, 1), table(2, 2, 0, 1, -1, 0)},
		{with(of(api.OMax), 1), sample.Of([]int{2, 2, 2}, 1, 5, 3, 4, 9, 9, 9, 9), table(2, 2, 3, 5, 9, 9), table(2, 2, 6, 7, 8, 9), sample.Of([]int{2, 2, 2}, 0, 7, 6, 0, 8, 9, 0, 0)},
	} {
		checkBack(t, c.n, args(c.a), c.out, c.g, args(c.want), api.OK)
	}
}

// P14.1: of two tensors: folded back to what was stretched, which one is first, and one that is both.
func TestBackTwo(t *testing.T) {
	x, across, down := row(6*one, 2*one), table(1, 2, one, 4*one), table(2, 1, 4*one, 2*one)
	g := table(2, 2, one, 2*one, 3*one, 5*one)
	long := filled([]int{1, 16}, most/16)
	for _, c := range []struct {
		n                    api.Node
		a, b, out, g, wa, wb api.Tensor
	}{
		{of(api.OAdd), cell(5), cell(-7), cell(-2), cell(least), cell(least), cell(least)}, {of(api.OAdd), x, down, g, g, row(4*one, 7*one), table(2, 1, 3*one, 8*one)}, {of(api.OAdd), x, x, x, x, x, x},
		{of(api.OAdd), cell(1), long, long, long, cell(most / 16 * 16), long}, {of(api.OAdd), table(1, 1, 1), row(1, 2, 3), table(1, 3, 1, 2, 3), table(1, 3, most, -1, 1), table(1, 1, most), row(most, -1, 1)},
		{of(api.OSub), x, cell(one), x, row(3*one, 4*one), row(3*one, 4*one), cell(-7 * one)}, {of(api.OSub), cell(one), x, x, row(3*one, 4*one), cell(7 * one), row(-3*one, -4*one)}, {of(api.OSub), x, x, x, row(1, 0), row(1, 0), row(-1, 0)},
		{of(api.OSub), row(1, 1), cell(1), row(0, 0), row(most, 1), row(most, 1), cell(least)},
		{of(api.OMul), across, down, g, g, table(1, 2, 10*one, 18*one), table(2, 1, 9*one, 23*one)}, {of(api.OMul), down, across, g, g, table(2, 1, 9*one, 23*one), table(1, 2, 10*one, 18*one)}, {of(api.OMul), x, x, x, x, row(36*one, 4*one), row(36*one, 4*one)},
		// each product is floored ahead of being added
		{of(api.OMul), cell(1), row(1, 1, 1), row(0, 0, 0), row(one/2, -one/2, -1), cell(-2), row(0, -1, -1)},
		{of(api.ODiv), across, down, g, g, table(1, 2, one/4+3*one/2, one/2+5*one/2), table(2, 1, -one/4-one, -9*one/2-25*one/2)},
		{of(api.ODiv), x, cell(2 * one), row(3*one, one), row(one, -one), row(one/2, -one/2), cell(-one)}, {of(api.ODiv), cell(2 * one), x, row(1431655765, one), row(one, one), cell(715827882 + one/2), row(-238609294, -one/2)},
		// floored twice, and then 0 less that
		{of(api.ODiv), cell(1), cell(-3 * one), cell(-1), cell(1), cell(-1), cell(0)}, {of(api.ODiv), cell(1), cell(3 * one), cell(-1), cell(1), cell(0), cell(1)}, {of(api.ODiv), cell(one), cell(3 * one), cell(1431655765), cell(2 * one), cell(2863311530), cell(-954437176)},
		// what out is to be does not matter
		{of(api.ODiv), cell(one), cell(one), cell(5 * one), cell(one), cell(one), cell(-5 * one)}, {of(api.ODiv), cell(most), cell(1), cell(-1 << 62), cell(1), cell(one), cell(1 << 62)}, {of(api.ODiv), row(1, 1), cell(one), row(most, 1), row(one, one), row(one, one), cell(least)},
		{of(api.OMatmul), across, down, table(1, 1, 10*one), table(1, 1, 3*one), table(1, 2, 12*one, 6*one), table(2, 1, 3*one, 12*one)},
		{of(api.OMatmul), down, across, table(2, 2, 4*one, 16*one, 2*one, 8*one), g, table(2, 1, 9*one, 23*one), table(1, 2, 10*one, 18*one)},
		{of(api.OMatmul), g, g, g, table(2, 2, one, 0, 0, 0), table(2, 2, one, 3*one, 0, 0), table(2, 2, one, 0, 2*one, 0)},
		{with(of(api.OJoin), 0), row(1), row(2, 3), row(1, 2, 3), row(least, 0, most), row(least), row(0, most)}, {with(of(api.OJoin), 0), row(2, 3), row(1), row(2, 3, 1), row(4, 5, 6), row(4, 5), row(6)},
		{with(of(api.OJoin), 0), across, across, g, table(2, 2, 1, 2, 3, 4), table(1, 2, 1, 2), table(1, 2, 3, 4)}, {with(of(api.OJoin), 1), down, down, g, table(2, 2, 1, 2, 3, 4), table(2, 1, 1, 3), table(2, 1, 2, 4)},
		{with(of(api.OJoin), 1), table(2, 1, 7, 8), g, table(2, 3, 1, 2, 3, 4, 5, 6), table(2, 3, 1, 2, 3, 4, 5, 6), table(2, 1, 1, 4), table(2, 2, 2, 3, 5, 6)},
	} {
		checkBack(t, c.n, args(c.a, c.b), c.out, c.g, args(c.wa, c.wb), api.OK)
	}
}

// P14.1: numbers that have an error, of each op that can: for one arg alone, of the first call that has one, and of its first number.
func TestBackError(t *testing.T) {
	pair, ones := row(one, one), row(0, 0)
	for _, c := range []struct {
		n      api.Node
		args   []api.Tensor
		out, g api.Tensor
		want   api.Errno
	}{
		{of(api.OAdd), args(pair, cell(1)), ones, row(most, 1), api.ErrOver}, {of(api.OAdd), args(cell(1), pair), ones, row(least, -1), api.ErrOver},
		{of(api.OAdd), args(cell(1), row(1, 2, 3)), row(1, 2, 3), row(most, 1, -1), api.ErrOver}, {of(api.OAdd), args(table(2, 1, 1, 2), row(1, 2)), table(2, 2, 1, 2, 3, 4), table(2, 2, 0, 0, most, most), api.ErrOver},
		{of(api.OSub), args(cell(1), pair), ones, row(most, 1), api.ErrOver}, {of(api.OSub), args(pair, pair), ones, row(0, least), api.ErrOver}, {of(api.OSub), args(pair, cell(1)), ones, row(-most, -2), api.ErrOver},
		// below 0 ahead of being folded
		{of(api.OSub), args(pair, cell(1)), ones, row(least, 1), api.ErrOver}, {of(api.OSub), args(pair, cell(1)), ones, row(1, least), api.ErrOver},
		{of(api.OMul), args(pair, row(0, 1<<48)), ones, row(0, 1<<48), api.ErrOver}, {of(api.OMul), args(row(1<<48, 0), pair), ones, row(1<<48, 0), api.ErrOver},
		{of(api.OMul), args(cell(0), pair), ones, row(most, 1), api.ErrOver}, {of(api.OMul), args(pair, cell(0)), ones, row(most, 1), api.ErrOver}, {of(api.OMul), args(cell(0), row(2*one, 2*one)), ones, row(most, -most), api.ErrOver},
		{of(api.ODiv), args(pair, row(one, 0)), ones, ones, api.ErrZero}, {of(api.ODiv), args(pair, cell(0)), ones, ones, api.ErrZero}, {of(api.ODiv), args(cell(0), row(0, 1)), ones, row(1, most), api.ErrZero},
		{of(api.ODiv), args(cell(0), row(1, 0)), ones, row(most, 1), api.ErrOver}, {of(api.ODiv), args(cell(0), row(one, one)), ones, row(most, 1), api.ErrOver}, {of(api.ODiv), args(pair, row(one-1, one)), ones, row(most, 1), api.ErrOver},
		// for a ahead of for b
		{of(api.ODiv), args(pair, row(0, one)), row(most, most), row(2*one, 2*one), api.ErrZero},
		// for b alone: the product, what that is divided, 0 less that, and what is folded
		{of(api.ODiv), args(pair, row(one, 2*one)), row(0, most), row(0, 2*one), api.ErrOver}, {of(api.ODiv), args(cell(0), cell(1)), cell(most), cell(2), api.ErrOver}, {of(api.ODiv), args(cell(0), cell(1)), cell(least), cell(1), api.ErrOver}, {of(api.ODiv), args(pair, cell(one)), row(most, 2), pair, api.ErrOver},
		{of(api.ONeg), args(pair), ones, row(0, least), api.ErrOver},
		// a slope that is too great, by 0 too, and one that is not, but by g is
		{of(api.OPow), args(row(0, 31*one)), pair, ones, api.ErrOver}, {of(api.OPow), args(row(most, 0)), pair, ones, api.ErrOver}, {of(api.OPow), args(row(0, 30*one)), pair, row(1, 2*one), api.ErrOver}, {of(api.OPow), args(cell(one)), cell(0), cell(1 << 62), api.ErrOver},
		{of(api.OSqrt), args(ones), row(1, 0), row(1, 1), api.ErrZero}, {of(api.OSqrt), args(ones), ones, ones, api.ErrZero}, {of(api.OSqrt), args(pair), row(0, 1), row(0, most), api.ErrZero}, {of(api.OSqrt), args(pair), row(1, 0), row(most, 0), api.ErrOver},
		// twice the root ahead of what is divided by it
		{of(api.OSqrt), args(pair), row(0, 1<<62), row(1, 1), api.ErrOver}, {of(api.OSqrt), args(pair), row(0, -1<<62-1), row(1, 1), api.ErrOver}, {of(api.OSqrt), args(pair), row(0, 1<<62-1), row(1, 1), api.ErrZero},
		{of(api.OMatmul), args(table(1, 1, 0), table(1, 1, 1<<48)), table(1, 1, 0), table(1, 1, 1<<48), api.ErrOver}, {of(api.OMatmul), args(table(1, 1, 1<<48), table(1, 1, 0)), table(1, 1, 0), table(1, 1, 1<<48), api.ErrOver},
		{of(api.OMatmul), args(table(1, 1, 0), table(1, 2, one, one)), table(1, 2, 0, 0), table(1, 2, most, 1), api.ErrOver}, {of(api.OMatmul), args(table(2, 1, one, one), table(1, 1, 0)), table(2, 1, 0, 0), table(2, 1, most, 1), api.ErrOver},
	} {
		checkBack(t, c.n, c.args, c.out, c.g, nil, c.want)
	}
}

// made is what calls came to, one of what another one told; or the error of the first one that has one.
type made struct {
	t   api.Tensor
	err api.Errno
}

// come is what a call came to.
func come(t api.Tensor, err api.Errno) made {
	return made{t, err}
}

// then is what a call comes to of that.
func (m made) then(call func(t api.Tensor) (api.Tensor, api.Errno)) made {
	if m.err != api.OK {
		return m
	}
	return come(call(m.t))
}

// two is op of that and of what others came to.
func (m made) two(op int, others made) made {
	return m.then(func(t api.Tensor) (api.Tensor, api.Errno) {
		both := others.then(func(b api.Tensor) (api.Tensor, api.Errno) { return elem.Two(op, t, b) })
		return both.t, both.err
	})
}

// negative is 0 less that.
func (m made) negative() made {
	return m.then(func(t api.Tensor) (api.Tensor, api.Errno) { return elem.One(api.ONeg, t) })
}

// folded is that, taken back to the shape of an arg.
func (m made) folded(arg made) made {
	return m.then(func(t api.Tensor) (api.Tensor, api.Errno) { return tensor.Fold(t, arg.t.Shape) })
}

// grown is that, with a side put in.
func (m made) grown(axis, side int) made {
	return m.then(func(t api.Tensor) (api.Tensor, api.Errno) { return reduce.Grow(t, axis, side) })
}

// above is g where a is above 0, and 0 elsewhere.
func above(a, g api.Tensor) made {
	t := sample.Of(a.Shape)
	for place, n := range a.Data {
		if n <= 0 {
			t.Data = append(t.Data, 0)
		} else {
			t.Data = append(t.Data, g.Data[place])
		}
	}
	return come(t, api.OK)
}

// slopes are how steep a power is at each number of a.
func slopes(a api.Tensor) made {
	t := sample.Of(a.Shape)
	for _, n := range a.Data {
		slope, err := fix.Slope(n)
		if err != api.OK {
			return come(api.Tensor{}, err)
		}
		t.Data = append(t.Data, slope)
	}
	return come(t, api.OK)
}

// rowOf is the table's row of the promise: what g is turned back to, of a node that fits, for each arg.
func rowOf(n api.Node, all []api.Tensor, out, hung api.Tensor) []made {
	g, o, a, b := come(hung, api.OK), come(out, api.OK), made{}, made{}
	axis, side := 0, 0
	if len(all) > 0 {
		a = come(all[0], api.OK)
	}
	if len(all) > 1 {
		b = come(all[1], api.OK)
	}
	if len(n.Nums) > 0 && n.Op >= api.OSlice {
		axis = n.Nums[0]
		side = a.t.Shape[axis]
	}
	switch n.Op {
	case api.OAdd:
		return []made{g.folded(a), g.folded(b)}
	case api.OSub:
		return []made{g.folded(a), g.negative().folded(b)}
	case api.OMul:
		return []made{g.two(api.OMul, b).folded(a), g.two(api.OMul, a).folded(b)}
	case api.ODiv:
		return []made{g.two(api.ODiv, b).folded(a), g.two(api.OMul, o).two(api.ODiv, b).negative().folded(b)}
	case api.ONeg:
		return []made{g.negative()}
	case api.ORelu:
		return []made{above(a.t, hung)}
	case api.OPow:
		return []made{g.two(api.OMul, slopes(a.t))}
	case api.OSqrt:
		return []made{g.two(api.ODiv, o.two(api.OAdd, o))}
	case api.OMatmul:
		return []made{come(matmul.Left(hung, b.t)), come(matmul.Right(a.t, hung))}
	case api.OReshape:
		return []made{come(move.Reshape(hung, a.t.Shape))}
	case api.OTurn:
		return []made{come(move.Turn(hung))}
	case api.OSlice:
		return []made{come(move.Pad(hung, axis, n.Nums[1], side))}
	case api.OJoin:
		return []made{come(move.Slice(hung, axis, 0, side)), come(move.Slice(hung, axis, side, side+b.t.Shape[axis]))}
	case api.OSum:
		return []made{g.grown(axis, side)}
	case api.OMean:
		return []made{g.two(api.ODiv, come(cell(side*one), api.OK)).grown(axis, side)}
	case api.OMax:
		return []made{g.grown(axis, side).two(api.OMul, come(reduce.First(a.t, axis)))}
	}
	return nil
}

// turned is what the promise's words make of a node, of tensors that may be.
func turned(n api.Node, args []api.Tensor, out, g api.Tensor) ([]api.Tensor, api.Errno) {
	s, err := infer.Node(n, sample.ShapesOf(args))
	if err != api.OK {
		return nil, err
	}
	if !slices.Equal(s, out.Shape) || !slices.Equal(s, g.Shape) {
		return nil, api.ErrShape
	}
	var all []api.Tensor
	for _, m := range rowOf(n, args, out, g) {
		if m.err != api.OK {
			return nil, m.err
		}
		all = append(all, m.t)
	}
	return all, api.OK
}

// hanging are tensors of a shape that hang on a node: of small numbers, of great ones, and of 0 throughout.
func hanging(s []int) []api.Tensor {
	return args(filled(s, one, -3*one, 1, -1), filled(s, most, 1, least), filled(s, 0))
}

// outs are tensors of the shape s that a node may have come to: of quotients and roots what it is reckoned to, if that has no error, and others; else one.
func outs(n api.Node, all []api.Tensor, s []int) []api.Tensor {
	in, params := sample.Outside()
	others := args(filled(s, 3*one, 1, -one), filled(s, 0, 1<<62))
	if n.Op != api.ODiv && n.Op != api.OSqrt {
		return others[:1]
	}
	out, err := eval.Node(n, all, in, params)
	if err != api.OK {
		return others
	}
	return append(others, out)
}

// held holds what Back answers against the promise's words, and tells its error.
func held(t *testing.T, n api.Node, all []api.Tensor, out, g api.Tensor) api.Errno {
	t.Helper()
	want, err := turned(n, all, out, g)
	checkBack(t, n, all, out, g, want, err)
	// Answers are these, or there was a fault.
	for arg, x := range want {
		if !tensor.Check(x) || !slices.Equal(x.Shape, all[arg].Shape) {
			t.Errorf("op %d, %v, of %v: %v for arg %d", n.Op, n.Nums, all, x, arg)
		}
		if slices.Max(g.Data) == 0 && slices.Min(g.Data) == 0 && (slices.Max(x.Data) != 0 || slices.Min(x.Data) != 0) {
			t.Errorf("op %d, %v, of %v: %v for arg %d, by 0", n.Op, n.Nums, all, x, arg)
		}
	}
	return err
}

// P14.1, P14.2: each op, with numbers that fit and that don't, of tensors of all of some shapes, is what the promise's words make of it, of its args' shapes, and 0 by 0.
func TestBackAll(t *testing.T) {
	told := map[api.Errno]int{}
	for count, ops := range sample.Ops() {
		lists := sample.TensorsOf(count)
		for _, op := range ops {
			for _, nums := range sample.RightNums(op) {
				n := with(of(op), nums...)
				for _, all := range lists {
					// Of what does not fit there is no shape: what hangs on it has the one that it may have.
					s, err := infer.Node(n, sample.ShapesOf(all))
					if err != api.OK {
						told[held(t, n, all, cell(0), cell(most))]++
						continue
					}
					for _, out := range outs(n, all, s) {
						for _, g := range hanging(s) {
							told[held(t, n, all, out, g)]++
						}
					}
				}
			}
		}
	}
	for _, err := range []api.Errno{api.OK, api.ErrOver, api.ErrZero, api.ErrShape} {
		if told[err] == 0 {
			t.Errorf("answers are %v, none of them %d", told, err)
		}
	}
}

// steep is a node of tensors of which its numbers rise evenly, as far as those next to them.
type steep struct {
	n    api.Node
	args []api.Tensor
}

// apart is a tensor of s whose numbers are apart from each other, and none of which is 0.
func apart(s ...int) api.Tensor {
	t := counted(s, 0)
	for place := range t.Data {
		t.Data[place] = (place*7%13-6)*one + one/2
	}
	return t
}

// halves is a tensor of s whose numbers are powers of 2, and such below 0, by which numbers are divided with nothing left.
func halves(s ...int) api.Tensor {
	return filled(s, one, -2*one, one/2, 4*one, -one/4)
}

// steeps are some of each op that rises evenly.
func steeps() []steep {
	var all []steep
	for _, a := range [][]int{{}, {3}, {2, 3}, {2, 1}, {1, 3}, {2, 2, 3}} {
		for _, b := range [][]int{{}, {3}, {2, 3}, {2, 1}, {1, 1}, {1, 2, 1}} {
			for _, op := range []int{api.OAdd, api.OSub, api.OMul, api.ODiv} {
				all = append(all, steep{of(op), args(apart(a...), halves(b...))})
			}
		}
	}
	for _, s := range [][]int{{4}, {2, 4}, {4, 2}, {2, 4, 1}, {1, 2, 4}, {4, 2, 1}} {
		x := apart(s...)
		for _, op := range []int{api.ONeg, api.ORelu, api.OPow, api.OTurn} {
			all = append(all, steep{of(op), args(x)})
		}
		all = append(all, steep{with(of(api.OReshape), 2, 2, len(x.Data)/4), args(x)})
		for axis, side := range s {
			for _, op := range []int{api.OSum, api.OMean, api.OMax} {
				all = append(all, steep{with(of(op), axis), args(x)})
			}
			for from := range side {
				all = append(all, steep{with(of(api.OSlice), axis, from, side), args(x)}, steep{with(of(api.OSlice), axis, 0, from+1), args(x)})
			}
			r := slices.Clone(s)
			r[axis] = 3
			all = append(all, steep{with(of(api.OJoin), axis), args(x, halves(r...))}, steep{with(of(api.OJoin), axis), args(apart(r...), x)})
		}
	}
	for _, s := range [][3]int{{1, 1, 1}, {2, 3, 4}, {4, 1, 2}, {1, 5, 1}, {3, 2, 1}} {
		all = append(all, steep{of(api.OMatmul), args(apart(s[0], s[1]), halves(s[1], s[2]))})
	}
	return all
}

// along is how much of g there is in x, added: none of these sums leaves anything, or is too great.
func along(g, x api.Tensor) int {
	sum := 0
	for place, n := range g.Data {
		product, _ := fix.Mul(n, x.Data[place])
		sum += product
	}
	return sum
}

// reckoned is what a node comes to.
func reckoned(t *testing.T, n api.Node, all []api.Tensor) api.Tensor {
	t.Helper()
	x, err := eval.Node(n, all, api.Tensor{}, nil)
	if err != api.OK {
		t.Fatalf("op %d, %v, of %v: %d", n.Op, n.Nums, all, err)
	}
	return x
}

// risen is how much more of g there is in a node, when a number of an arg is a 16th more, so many times as that is.
func risen(t *testing.T, n api.Node, all []api.Tensor, g api.Tensor, arg, place int) int {
	t.Helper()
	more := slices.Clone(all)
	more[arg] = sample.Of(all[arg].Shape, slices.Clone(all[arg].Data)...)
	more[arg].Data[place] += one / 16
	return 16 * (along(g, reckoned(t, n, more)) - along(g, reckoned(t, n, all)))
}

// P14.1: what hangs on an arg is how steeply what hangs on the node rises with each of its numbers, exactly, where that is even.
func TestBackSlopes(t *testing.T) {
	for _, c := range steeps() {
		out := reckoned(t, c.n, c.args)
		g := filled(out.Shape, one, -2*one, one/2, 3*one, 0, -5*one, 7*one)
		all, err := vjp.Back(c.n, c.args, out, g)
		if len(all) != len(c.args) || err != api.OK {
			t.Errorf("op %d, %v, of %v: %v, %d", c.n.Op, c.n.Nums, c.args, all, err)
			continue
		}
		for arg, x := range all {
			// What is divided by a number does not rise evenly with that.
			if c.n.Op == api.ODiv && arg == 1 {
				continue
			}
			for place, slope := range x.Data {
				if want := risen(t, c.n, c.args, g, arg, place); slope != want {
					t.Errorf("op %d, %v, of %v, by %v: for arg %d %v, at %d; want %d", c.n.Op, c.n.Nums, c.args, g, arg, x, place, want)
				}
			}
		}
	}
}

// P14.1: with all numbers of b a quotient falls as it is, a root rises half as it is; here of numbers that leave nothing.
func TestBackUneven(t *testing.T) {
	for _, s := range [][]int{{}, {3}, {2, 3}, {2, 1}} {
		for _, r := range [][]int{{}, {3}, {2, 3}} {
			all := args(apart(s...), halves(r...))
			out := reckoned(t, of(api.ODiv), all)
			g := filled(out.Shape, one, -2*one, one/2, 4*one)
			got, err := vjp.Back(of(api.ODiv), all, out, g)
			if len(got) != 2 || err != api.OK || along(got[1], all[1]) != -along(g, out) || along(got[0], all[0]) != along(g, out) {
				t.Errorf("a quotient of %v, by %v: %v, %d", all, g, got, err)
			}
		}
		x := filled(s, 4*one, one/16, one, 64*one)
		out := reckoned(t, of(api.OSqrt), args(x))
		g := filled(s, one, -2*one, one/2)
		got, err := vjp.Back(of(api.OSqrt), args(x), out, g)
		if len(got) != 1 || err != api.OK || 2*along(got[0], x) != along(g, out) {
			t.Errorf("a root of %v, by %v: %v, %d", x, g, got, err)
		}
	}
}

// checkWrong holds that a node has an error, whatever else is wrong behind it.
func checkWrong(t *testing.T, n api.Node, all []api.Tensor, out, g api.Tensor, want api.Errno) {
	t.Helper()
	checkBack(t, n, all, out, g, nil, want)
	checkBack(t, with(n, 1, 2, 3, 4, 5), all, out, g, nil, want)
	checkBack(t, of(99), all, out, g, nil, want)
	checkBack(t, n, append(slices.Clone(all), cell(1)), out, g, nil, want)
}

// P14.1: an arg, out, or g, that may not be, at each place, is told ahead of all else.
func TestBackTensor(t *testing.T) {
	hung := turns()
	for _, wrong := range sample.WrongTensors() {
		for _, f := range sample.Fits() {
			g := hung[f.N.Op].g
			checkWrong(t, f.N, f.Args, wrong, g, api.ErrTensor)
			checkWrong(t, f.N, f.Args, f.Want, wrong, api.ErrTensor)
			checkWrong(t, f.N, f.Args, wrong, wrong, api.ErrTensor)
			checkWrong(t, f.N, f.Args, wrong, table(1, 5, 1, 2, 3, 4, 5), api.ErrTensor)
			checkWrong(t, f.N, f.Args, table(1, 5, 1, 2, 3, 4, 5), wrong, api.ErrTensor)
			for place := range f.Args {
				changed := slices.Clone(f.Args)
				changed[place] = wrong
				checkWrong(t, f.N, changed, f.Want, g, api.ErrTensor)
				checkWrong(t, f.N, changed, cell(1), row(1), api.ErrTensor)
				checkWrong(t, f.N, changed, wrong, wrong, api.ErrTensor)
			}
			checkWrong(t, f.N, append(slices.Clone(f.Args), wrong), f.Want, g, api.ErrTensor)
			checkWrong(t, f.N, slices.Repeat(args(wrong), 100), f.Want, g, api.ErrTensor)
		}
		for _, op := range []int{0, -1, 4, 99, least, most} {
			checkWrong(t, of(op), args(wrong), cell(1), cell(1), api.ErrTensor)
			checkWrong(t, of(op), nil, wrong, cell(1), api.ErrTensor)
			checkWrong(t, of(op), nil, cell(1), wrong, api.ErrTensor)
			checkWrong(t, of(op), append(slices.Repeat(args(cell(1)), 1000), wrong), cell(1), cell(1), api.ErrTensor)
		}
	}
}

// P14.1: what infer does not fit: too few args, or too many; Nums; no op.
func TestBackShape(t *testing.T) {
	hung := turns()
	for _, f := range sample.Fits() {
		g := hung[f.N.Op].g
		for count := range f.Args {
			checkBack(t, f.N, f.Args[:count], f.Want, g, nil, api.ErrShape)
		}
		for _, x := range []api.Tensor{cell(least), row(most), f.Want} {
			checkWrong(t, f.N, append(slices.Clone(f.Args), x), f.Want, g, api.ErrShape)
			for _, count := range []int{3, 4, 255, 256, 257, 10000} {
				checkWrong(t, f.N, slices.Repeat(args(x), count), f.Want, g, api.ErrShape)
			}
		}
		for _, nums := range sample.WrongNums(f.N.Op) {
			checkBack(t, with(f.N, nums...), f.Args, f.Want, g, nil, api.ErrShape)
		}
	}
	for _, op := range sample.WrongOps() {
		for count := range 4 {
			checkWrong(t, of(op), slices.Repeat(args(cell(1)), count), cell(1), cell(1), api.ErrShape)
			checkWrong(t, with(of(op), 0), slices.Repeat(args(row(1)), count), row(1), row(1), api.ErrShape)
		}
	}
	for _, c := range []struct {
		n    api.Node
		args []api.Tensor
	}{
		{of(api.OAdd), args(row(1, 1), row(1, 1, 1))}, {of(api.ODiv), args(row(1, 2), row(0, 0, 0))}, {of(api.OMul), args(filled([]int{16, 1}, most), filled([]int{16}, most))},
		{of(api.OMatmul), args(row(most), row(most))}, {of(api.OMatmul), args(table(1, 2, 1, 1), table(1, 2, 1, 1))}, {of(api.OMatmul), args(filled([]int{16, 1}, 1), filled([]int{1, 5}, 1))},
		{with(of(api.OReshape), 3), args(row(1, 2))}, {with(of(api.OReshape)), args(row(1, 2))}, {with(of(api.OSlice), 0, 1, 1), args(row(1, 2))}, {with(of(api.OSlice), 1, 0, 1), args(row(1, 2))}, {with(of(api.OSlice), 0, least, most), args(row(1, 2))}, {with(of(api.OSlice), 0, 0, 3), args(row(1, 2))},
		{with(of(api.OJoin), 0), args(filled([]int{16}, 1), row(1))}, {with(of(api.OJoin), 1), args(row(1), row(1))}, {with(of(api.OJoin), most), args(row(1), row(1))},
		{with(of(api.OSum), 0), args(cell(1))}, {with(of(api.OMean), 1), args(row(1, 1))}, {with(of(api.OMax), -1), args(row(1))}, {with(of(api.OSum), least), args(row(1))},
	} {
		for _, x := range append(args(cell(0), row(most, most), row(1)), c.args...) {
			checkBack(t, c.n, c.args, x, x, nil, api.ErrShape)
		}
	}
}

// P14.1: out, and g, of each shape, fit just where the node has that; else that is told ahead of numbers that have an error.
func TestBackBeside(t *testing.T) {
	hung := turns()
	shapes := append(sample.Shapes(1, 2, 3, 6), []int{})
	for _, f := range sample.Fits() {
		g, s := hung[f.N.Op].g, f.Want.Shape
		for _, r := range shapes {
			if slices.Equal(r, s) {
				checkBack(t, f.N, f.Args, f.Want, g, hung[f.N.Op].want, api.OK)
				continue
			}
			for _, numbers := range []int{0, 5, most, least} {
				x := filled(r, numbers)
				checkBack(t, f.N, f.Args, x, g, nil, api.ErrShape)
				checkBack(t, f.N, f.Args, f.Want, x, nil, api.ErrShape)
				checkBack(t, f.N, f.Args, x, x, nil, api.ErrShape)
				checkBack(t, f.N, f.Args, x, filled(s, numbers), nil, api.ErrShape)
				checkBack(t, f.N, f.Args, filled(s, numbers), x, nil, api.ErrShape)
			}
		}
	}
	for _, s := range shapes {
		for _, r := range shapes {
			var want api.Errno
			if !slices.Equal(s, r) {
				want = api.ErrShape
			}
			for _, n := range []api.Node{input(s...), param(3, s...)} {
				checkBack(t, n, nil, filled(s, 1), filled(r, 1), nil, want)
				checkBack(t, n, nil, filled(r, 1), filled(s, 1), nil, want)
			}
		}
	}
}

// P14.1: what out is matters to quotients and to roots alone; whom a node names does not matter, since args are told.
func TestBackOut(t *testing.T) {
	hung := turns()
	for _, f := range sample.Fits() {
		h := hung[f.N.Op]
		if f.N.Op != api.ODiv && f.N.Op != api.OSqrt {
			for _, numbers := range []int{0, 1, -1, one, 1 << 62, most, least} {
				checkBack(t, f.N, f.Args, filled(f.Want.Shape, numbers), h.g, h.want, api.OK)
			}
		}
		for _, named := range [][]int{nil, {}, {0}, {0, 0}, {7, -1, 3}, {least, most}, make([]int, 10000)} {
			f.N.Args = named
			checkBack(t, f.N, f.Args, f.Want, h.g, h.want, api.OK)
		}
	}
}

// P14.2: by 0 throughout, whatever the numbers are, if there is no error.
func TestBackNothing(t *testing.T) {
	for _, f := range sample.Fits() {
		var want []api.Tensor
		for _, x := range f.Args {
			want = append(want, filled(x.Shape, 0))
		}
		checkBack(t, f.N, f.Args, f.Want, filled(f.Want.Shape, 0), want, api.OK)
	}
	for _, n := range []int{most, least, -1, 1} {
		for _, op := range []int{api.OAdd, api.OSub, api.OMul, api.ODiv} {
			checkBack(t, of(op), args(cell(n), row(n, n)), row(n, n), row(0, 0), args(cell(0), row(0, 0)), api.OK)
		}
		for _, op := range []int{api.ONeg, api.ORelu, api.OTurn} {
			checkBack(t, of(op), args(row(n, n)), row(n, n), row(0, 0), args(row(0, 0)), api.OK)
		}
		checkBack(t, of(api.OMatmul), args(table(1, 1, n), table(1, 1, n)), table(1, 1, n), table(1, 1, 0), args(table(1, 1, 0), table(1, 1, 0)), api.OK)
	}
}

// room is a node, and what it is turned back of, in lists that have spare room, and these lists with it.
func room(f sample.Fit, out, g api.Tensor) (api.Node, []api.Tensor, api.Tensor, api.Tensor, [][]int) {
	nums, named := append(slices.Clone(f.N.Nums), 7, 7), []int{3, 4, 9}
	handed := [][]int{nums, named}
	roomy := func(x api.Tensor) api.Tensor {
		x, lists := sample.Roomy(x)
		handed = append(handed, lists...)
		return x
	}
	var all []api.Tensor
	for _, x := range f.Args {
		all = append(all, roomy(x))
	}
	all = append(all, cell(3), cell(4))
	return api.Node{Op: f.N.Op, Args: named[:2], Nums: nums[:len(f.N.Nums)]}, all, roomy(out), roomy(g), handed
}

// checkApart holds that what Back answers is right, again when it was written over, and that what was handed in is left as it was.
func checkApart(t *testing.T, n api.Node, all []api.Tensor, count int, out, g api.Tensor, want []api.Tensor, handed [][]int) {
	t.Helper()
	wanted := sample.ListsOf(want)
	for i, l := range wanted {
		wanted[i] = slices.Clone(l)
	}
	before := fmt.Sprint(n, all, out, g, handed)
	for range 3 {
		got, err := vjp.Back(n, all[:count], out, g)
		if err != api.OK {
			t.Errorf("op %d: %d", n.Op, err)
		}
		sample.ListsApart(t, sample.ListsOf(got), wanted)
		clear(got[:cap(got)])
		if after := fmt.Sprint(n, all, out, g, handed); after != before {
			t.Errorf("op %d: what was handed in is now %s, not %s", n.Op, after, before)
		}
	}
}

// R4: what is handed in is left as it was, its spare room too, and shares nothing with what is answered, nor do answers with each other.
func TestBackMemory(t *testing.T) {
	hung := turns()
	for _, f := range sample.Fits() {
		h := hung[f.N.Op]
		n, all, out, g, handed := room(f, f.Want, h.g)
		checkApart(t, n, all, len(f.Args), out, g, h.want, handed)
	}
	// One tensor is all of them.
	for _, n := range []api.Node{of(api.OAdd), of(api.OTurn), with(of(api.OReshape), 2), with(of(api.OSlice), 0, 0, 2), of(api.ORelu), of(api.OSqrt), of(api.OPow)} {
		x, handed := sample.Roomy(row(one, one))
		count, want := 1, args(x)
		switch n.Op {
		case api.OAdd:
			count, want = 2, args(x, x)
		case api.OSqrt:
			want = args(row(one/2, one/2))
		case api.OPow:
			want = args(row(2*one, 2*one))
		}
		checkApart(t, n, args(x, x), count, x, x, want, handed)
	}
}
