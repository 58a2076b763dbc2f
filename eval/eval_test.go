package eval_test

import (
	"fmt"
	"slices"
	"testing"

	"fuller/api"
	"fuller/elem"
	"fuller/eval"
	"fuller/infer"
	"fuller/matmul"
	"fuller/move"
	"fuller/reduce"
	"fuller/sample"
	"fuller/tensor"
)

const (
	one   = api.One
	least = sample.Least
	most  = sample.Most
)

var (
	of, with, input, param, number, graphOf, line = sample.Node, sample.With, sample.Input, sample.Param, sample.Number, sample.Graph, sample.Line
	filled, counted, row, cell, table             = sample.Filled, sample.Counted, sample.Row, sample.Cell, sample.Table
	args, same, shapesOf                          = sample.Tensors, sample.Same, sample.ShapesOf
)

// checkNode holds what Node answers against what it is to be.
func checkNode(t *testing.T, n api.Node, args []api.Tensor, in api.Tensor, params []api.Tensor, want api.Tensor, wantErr api.Errno) {
	t.Helper()
	got, err := eval.Node(n, args, in, params)
	if !same(got, want) || err != wantErr {
		t.Errorf("op %d, %d numbers, at first %v, of %d tensors, at first %v: %v, %d; want %v, %d", n.Op, len(n.Nums), n.Nums[:min(len(n.Nums), 5)], len(args), args[:min(len(args), 3)], got, err, want, wantErr)
	}
}

// checkWrong holds that a node has an error, whether what is given, and the parameters, are right, or there are none.
func checkWrong(t *testing.T, n api.Node, args []api.Tensor, want api.Errno) {
	t.Helper()
	in, params := sample.Outside()
	checkNode(t, n, args, in, params, api.Tensor{}, want)
	checkNode(t, n, args, api.Tensor{}, nil, api.Tensor{}, want)
}

// checkAll holds what All answers against what it is to be.
func checkAll(t *testing.T, l []api.Node, in api.Tensor, params, want []api.Tensor, wantNode int, wantErr api.Errno) {
	t.Helper()
	got, node, err := eval.All(l, in, params)
	if !slices.EqualFunc(got, want, same) || node != wantNode || err != wantErr {
		t.Errorf("%d nodes, at first %v, given %v: %v, %d, %d; want %v, %d, %d", len(l), l[:min(len(l), 6)], in, got, node, err, want, wantNode, wantErr)
	}
}

// P13.1: each op, of what fits.
func TestNode(t *testing.T) {
	in, params := sample.Outside()
	for _, f := range sample.Fits() {
		checkNode(t, f.N, f.Args, in, params, f.Want, api.OK)
	}
	for _, none := range [][]api.Tensor{nil, {}} {
		checkNode(t, input(), none, cell(3), nil, cell(3), api.OK)
		checkNode(t, input(4, 4, 4), none, counted([]int{4, 4, 4}, 1), nil, counted([]int{4, 4, 4}, 1), api.OK)
		checkNode(t, param(0), none, cell(3), args(cell(least)), cell(least), api.OK)
		for _, n := range []int{least, -1, 0, 1, one, most} {
			checkNode(t, number(n), none, api.Tensor{}, nil, cell(n), api.OK)
		}
	}
}

// P13.1: of one tensor: its sides, and the numbers at the ends.
func TestNodeOne(t *testing.T) {
	cube := counted([]int{2, 3, 2}, 1)
	for _, c := range []struct {
		n       api.Node
		a, want api.Tensor
	}{
		{of(api.ONeg), cell(5), cell(-5)}, {of(api.ONeg), row(most, 0), row(-most, 0)}, {of(api.ORelu), row(least, -1, 0, 1, most), row(0, 0, 0, 1, most)},
		{of(api.OPow), row(0, -one, 3*one, least), row(one, one/2, 8*one, 0)}, {of(api.OSqrt), row(0, one, 1, 9*one), row(0, one, 1<<16, 3*one)},
		{with(of(api.OReshape)), row(7), cell(7)}, {with(of(api.OReshape), 1, 1), cell(7), table(1, 1, 7)}, {with(of(api.OReshape), 12), cube, counted([]int{12}, 1)}, {with(of(api.OReshape), 2, 3, 2), cube, cube},
		{of(api.OTurn), cell(7), cell(7)}, {of(api.OTurn), row(1, 2), row(1, 2)}, {of(api.OTurn), cube, sample.Of([]int{2, 3, 2}, 1, 7, 3, 9, 5, 11, 2, 8, 4, 10, 6, 12)},
		{with(of(api.OSlice), 0, 0, 3), row(1, 2, 3), row(1, 2, 3)}, {with(of(api.OSlice), 0, 1, 2), cube, counted([]int{1, 3, 2}, 7)}, {with(of(api.OSlice), 1, 2, 3), cube, sample.Of([]int{2, 1, 2}, 5, 6, 11, 12)}, {with(of(api.OSlice), 2, 0, 1), cube, sample.Of([]int{2, 3, 1}, 1, 3, 5, 7, 9, 11)},
		{with(of(api.OSum), 0), row(most, -1, 1), cell(most)}, {with(of(api.OSum), 0), cube, table(3, 2, 8, 10, 12, 14, 16, 18)}, {with(of(api.OSum), 2), cube, table(2, 3, 3, 7, 11, 15, 19, 23)},
		{with(of(api.OMean), 0), row(1, 2), cell(1)}, {with(of(api.OMean), 0), row(-1, -2), cell(-2)}, {with(of(api.OMean), 1), cube, table(2, 2, 3, 4, 9, 10)},
		{with(of(api.OMax), 0), row(least, least), cell(least)}, {with(of(api.OMax), 0), row(most, most, least), cell(most)}, {with(of(api.OMax), 2), cube, table(2, 3, 2, 4, 6, 8, 10, 12)},
	} {
		checkNode(t, c.n, args(c.a), api.Tensor{}, nil, c.want, api.OK)
	}
}

// P13.1: of two tensors: stretched, which one is first, and one that is both.
func TestNodeTwo(t *testing.T) {
	x, across, down := row(6*one, 2*one), table(1, 2, one, 3*one), table(2, 1, 4*one, 2*one)
	for _, c := range []struct {
		n          api.Node
		a, b, want api.Tensor
	}{
		{of(api.OAdd), cell(5), cell(-7), cell(-2)}, {of(api.OAdd), x, down, table(2, 2, 10*one, 6*one, 8*one, 4*one)}, {of(api.OAdd), x, x, row(12*one, 4*one)},
		{of(api.OSub), x, cell(one), row(5*one, one)}, {of(api.OSub), cell(one), x, row(-5*one, -one)}, {of(api.OSub), x, x, row(0, 0)},
		{of(api.OMul), across, down, table(2, 2, 4*one, 12*one, 2*one, 6*one)}, {of(api.OMul), cell(-1), cell(1), cell(-1)}, {of(api.OMul), x, x, row(36*one, 4*one)},
		{of(api.ODiv), x, row(2*one, 4*one), row(3*one, one/2)}, {of(api.ODiv), cell(2 * one), x, row(1431655765, one)}, {of(api.ODiv), x, x, row(one, one)}, {of(api.ODiv), down, across, table(2, 2, 4*one, 5726623061, 2*one, 2863311530)},
		{of(api.OMatmul), across, down, table(1, 1, 10*one)}, {of(api.OMatmul), down, across, table(2, 2, 4*one, 12*one, 2*one, 6*one)},
		{with(of(api.OJoin), 0), row(1), row(2, 3), row(1, 2, 3)}, {with(of(api.OJoin), 0), row(2, 3), row(1), row(2, 3, 1)}, {with(of(api.OJoin), 0), across, across, table(2, 2, one, 3*one, one, 3*one)}, {with(of(api.OJoin), 1), across, across, table(1, 4, one, 3*one, one, 3*one)},
	} {
		checkNode(t, c.n, args(c.a, c.b), api.Tensor{}, nil, c.want, api.OK)
	}
}

// P13.1: numbers that have an error, of each op that can; the first one's.
func TestNodeError(t *testing.T) {
	for _, c := range []struct {
		n    api.Node
		args []api.Tensor
		want api.Errno
	}{
		{of(api.OAdd), args(row(1, most), cell(1)), api.ErrOver}, {of(api.OAdd), args(cell(least), cell(-1)), api.ErrOver},
		{of(api.OSub), args(row(1, least), cell(1)), api.ErrOver}, {of(api.OSub), args(cell(0), cell(least)), api.ErrOver},
		{of(api.OMul), args(row(0, 1<<48), cell(1<<48)), api.ErrOver}, {of(api.OMul), args(cell(1<<40), cell(1<<60)), api.ErrOver},
		{of(api.ODiv), args(cell(0), row(1, 0)), api.ErrZero}, {of(api.ODiv), args(cell(most), row(one, one-1)), api.ErrOver},
		{of(api.ODiv), args(cell(most), row(0, 1)), api.ErrZero}, {of(api.ODiv), args(cell(most), row(1, 0)), api.ErrOver},
		{of(api.ONeg), args(row(0, least)), api.ErrOver}, {of(api.OPow), args(row(0, 31*one)), api.ErrOver}, {of(api.OSqrt), args(row(1, -1)), api.ErrNeg}, {of(api.OSqrt), args(cell(least)), api.ErrNeg},
		{of(api.OMatmul), args(table(1, 1, 1<<48), table(1, 1, 1<<48)), api.ErrOver}, {of(api.OMatmul), args(table(1, 2, most, 1), table(2, 1, one, one)), api.ErrOver},
		{with(of(api.OSum), 0), args(row(most, 1, -1)), api.ErrOver}, {with(of(api.OSum), 1), args(table(2, 2, 0, 0, least, -1)), api.ErrOver}, {with(of(api.OMean), 0), args(row(most, 1)), api.ErrOver},
	} {
		checkWrong(t, c.n, c.args, c.want)
	}
}

// reckoned is what the layers below make of a node, whatever its op is.
func reckoned(n api.Node, args []api.Tensor, in api.Tensor, params []api.Tensor) (api.Tensor, api.Errno) {
	s, err := infer.Node(n, shapesOf(args))
	if err != api.OK {
		return api.Tensor{}, err
	}
	switch n.Op {
	case api.OParam:
		in = api.Tensor{}
		if n.Nums[0] < len(params) {
			in = params[n.Nums[0]]
		}
		fallthrough
	case api.OInput:
		if !tensor.Check(in) || !slices.Equal(in.Shape, s) {
			return api.Tensor{}, api.ErrInput
		}
		return in, api.OK
	case api.OConst:
		return cell(n.Nums[0]), api.OK
	case api.OAdd, api.OSub, api.OMul, api.ODiv:
		return elem.Two(n.Op, args[0], args[1])
	case api.ONeg, api.ORelu, api.OPow, api.OSqrt:
		return elem.One(n.Op, args[0])
	case api.OMatmul:
		return matmul.Mul(args[0], args[1])
	case api.OReshape:
		return move.Reshape(args[0], n.Nums)
	case api.OTurn:
		return move.Turn(args[0])
	case api.OSlice:
		return move.Slice(args[0], n.Nums[0], n.Nums[1], n.Nums[2])
	case api.OJoin:
		return move.Join(args[0], args[1], n.Nums[0])
	case api.OSum:
		return reduce.Sum(args[0], n.Nums[0])
	case api.OMean:
		return reduce.Mean(args[0], n.Nums[0])
	}
	return reduce.Max(args[0], n.Nums[0])
}

// P13.1, P13.3: each op, with numbers that fit and that don't, of tensors of all of some shapes, is what the layers below make of it, of the shape that infer tells.
func TestNodeAll(t *testing.T) {
	in, params := sample.Outside()
	told := map[api.Errno]int{}
	for count, ops := range sample.Ops() {
		all := sample.TensorsOf(count)
		for _, op := range ops {
			for _, nums := range sample.RightNums(op) {
				n := with(of(op), nums...)
				for _, args := range all {
					want, wantErr := reckoned(n, args, in, params)
					checkNode(t, n, args, in, params, want, wantErr)
					told[wantErr]++
					if s, _ := infer.Node(n, shapesOf(args)); wantErr == api.OK && !slices.Equal(want.Shape, s) {
						t.Errorf("op %d, %v, of %v is of %v; want %v", op, nums, args, want.Shape, s)
					}
				}
			}
		}
	}
	for _, err := range []api.Errno{api.OK, api.ErrOver, api.ErrZero, api.ErrNeg, api.ErrShape, api.ErrInput} {
		if told[err] == 0 {
			t.Errorf("answers are %v, none of them %d", told, err)
		}
	}
}

// P13.1: an arg that may not be, at each place, is told ahead of how many there are, of Nums, of the op, and of what is given.
func TestNodeTensor(t *testing.T) {
	for _, wrong := range sample.WrongTensors() {
		for _, f := range sample.Fits() {
			for place := range f.Args {
				changed := slices.Clone(f.Args)
				changed[place] = wrong
				checkWrong(t, f.N, changed, api.ErrTensor)
				checkWrong(t, with(f.N, 1, 2, 3, 4, 5), changed, api.ErrTensor)
				checkWrong(t, f.N, append(changed, cell(1)), api.ErrTensor)
			}
			checkWrong(t, f.N, append(slices.Clone(f.Args), wrong), api.ErrTensor)
			checkWrong(t, f.N, slices.Repeat(args(wrong), 100), api.ErrTensor)
		}
		for _, op := range []int{0, -1, 4, 99, least, most} {
			checkWrong(t, of(op), args(wrong), api.ErrTensor)
			checkWrong(t, of(op), append(slices.Repeat(args(cell(1)), 1000), wrong), api.ErrTensor)
		}
	}
}

// P13.1: what infer does not fit, which is told ahead of what is given, and of numbers that have an error: too few args, or too many; Nums; no op.
func TestNodeShape(t *testing.T) {
	for _, f := range sample.Fits() {
		for count := range f.Args {
			checkWrong(t, f.N, f.Args[:count], api.ErrShape)
		}
		for _, x := range []api.Tensor{cell(least), row(most), table(2, 3, 1, 2, 3, 4, 5, 6)} {
			checkWrong(t, f.N, append(slices.Clone(f.Args), x), api.ErrShape)
			for _, count := range []int{3, 4, 255, 256, 257, 10000} {
				checkWrong(t, f.N, slices.Repeat(args(x), count), api.ErrShape)
			}
		}
		for _, nums := range sample.WrongNums(f.N.Op) {
			checkWrong(t, with(f.N, nums...), f.Args, api.ErrShape)
		}
	}
	for _, op := range sample.WrongOps() {
		for count := range 4 {
			checkWrong(t, of(op), slices.Repeat(args(cell(1)), count), api.ErrShape)
			checkWrong(t, with(of(op), 0), slices.Repeat(args(row(1)), count), api.ErrShape)
		}
	}
	for _, c := range []struct {
		n    api.Node
		args []api.Tensor
	}{
		{of(api.OAdd), args(row(most, most), row(most, most, most))}, {of(api.ODiv), args(row(1, 2), row(0, 0, 0))}, {of(api.OMul), args(filled([]int{16, 1}, most), filled([]int{16}, most))},
		{of(api.OMatmul), args(row(most), row(most))}, {of(api.OMatmul), args(table(1, 2, most, most), table(1, 2, most, most))}, {of(api.OMatmul), args(filled([]int{16, 1}, most), filled([]int{1, 5}, most))},
		{with(of(api.OReshape), 3), args(row(1, 2))}, {with(of(api.OReshape)), args(row(1, 2))}, {with(of(api.OSlice), 0, 1, 1), args(row(1, 2))}, {with(of(api.OSlice), 1, 0, 1), args(row(1, 2))}, {with(of(api.OSlice), 0, least, most), args(row(1, 2))},
		{with(of(api.OJoin), 0), args(filled([]int{16}, 1), row(1))}, {with(of(api.OJoin), 1), args(row(1), row(1))}, {with(of(api.OJoin), most), args(row(1), row(1))},
		{with(of(api.OSum), 0), args(cell(1))}, {with(of(api.OMean), 1), args(row(most, most))}, {with(of(api.OMax), -1), args(row(1))}, {with(of(api.OSum), least), args(row(1))},
	} {
		checkWrong(t, c.n, c.args, api.ErrShape)
	}
}

// P13.1: what is given, and a parameter, of each shape, is told just where the node has that.
func TestNodeInput(t *testing.T) {
	all := append(sample.Shapes(1, 2, 3, 6), []int{})
	for _, s := range all {
		for _, r := range all {
			x := counted(r, 5)
			want, wantErr := x, api.OK
			if !slices.Equal(s, r) {
				want, wantErr = api.Tensor{}, api.ErrInput
			}
			checkNode(t, input(s...), nil, x, nil, want, wantErr)
			checkNode(t, param(0, s...), nil, api.Tensor{}, args(x), want, wantErr)
			checkNode(t, param(7, s...), nil, api.Tensor{}, append(make([]api.Tensor, 7), x), want, wantErr)
		}
		for _, x := range append(sample.WrongTensors(), sample.Of(s), sample.Of(s, counted(s, 1).Data[1:]...), sample.Of(s, append(counted(s, 1).Data, 1)...)) {
			checkNode(t, input(s...), nil, x, nil, api.Tensor{}, api.ErrInput)
			checkNode(t, param(2, s...), nil, cell(1), args(cell(2), cell(3), x, cell(4)), api.Tensor{}, api.ErrInput)
		}
	}
}

// P13.1: of each parameter, with as many as there may be, with more, and with fewer, by its place.
func TestNodeParam(t *testing.T) {
	_, params := sample.Outside()
	for p := range params {
		for count := range len(params) + 1 {
			if p < count {
				checkNode(t, param(p, 2, 3), nil, api.Tensor{}, params[:count], params[p], api.OK)
			} else {
				checkNode(t, param(p, 2, 3), nil, api.Tensor{}, params[:count], api.Tensor{}, api.ErrInput)
			}
		}
		checkNode(t, param(p, 2, 3), nil, api.Tensor{}, append(slices.Clone(params), make([]api.Tensor, 1000)...), params[p], api.OK)
		checkNode(t, param(p, 2, 3), nil, api.Tensor{}, nil, api.Tensor{}, api.ErrInput)
		// No other one matters, nor what is given.
		for _, wrong := range sample.WrongTensors() {
			others := slices.Repeat(args(wrong), len(params))
			others[p] = params[p]
			checkNode(t, param(p, 2, 3), nil, wrong, others, params[p], api.OK)
			others = slices.Clone(params)
			others[p] = wrong
			checkNode(t, param(p, 2, 3), nil, params[p], others, api.Tensor{}, api.ErrInput)
			checkNode(t, input(2, 3), nil, params[p], slices.Repeat(args(wrong), p), params[p], api.OK)
		}
	}
	for _, p := range []int{least, -1, 8, 9, 1 << 32, most} {
		checkWrong(t, param(p, 2, 3), nil, api.ErrShape)
	}
}

// P13.1: what is given, and parameters, do not matter to other ops; nor does whom a node names, since these are told.
func TestNodeBeside(t *testing.T) {
	in, params := sample.Outside()
	for _, f := range sample.Fits() {
		if f.N.Op != api.OInput && f.N.Op != api.OParam {
			for _, wrong := range sample.WrongTensors() {
				checkNode(t, f.N, f.Args, wrong, args(wrong, cell(1), wrong), f.Want, api.OK)
			}
		}
		for _, named := range [][]int{nil, {}, {0}, {0, 0}, {7, -1, 3}, {least, most}, make([]int, 10000)} {
			f.N.Args = named
			checkNode(t, f.N, f.Args, in, params, f.Want, api.OK)
		}
	}
}

// P13.2
func TestAll(t *testing.T) {
	x, w := row(one, 3*one), row(4*one, -one)
	for _, c := range []struct {
		l      []api.Node
		in     api.Tensor
		params []api.Tensor
		want   []api.Tensor
	}{
		{graphOf(input(), of(api.ONeg, 0)), cell(5), nil, args(cell(5), cell(-5))},
		{graphOf(number(7)), api.Tensor{}, nil, args(cell(7))},
		{graphOf(param(0), of(api.OMul, 0, 0)), api.Tensor{}, args(cell(3 * one)), args(cell(3*one), cell(9*one))},
		{graphOf(input(2), param(1, 2), of(api.OSub, 0, 1), of(api.OSub, 1, 0), with(of(api.OSum, 2), 0)), x, args(api.Tensor{}, w), args(x, w, row(-3*one, 4*one), row(3*one, -4*one), cell(one))},
		{graphOf(input(2), with(of(api.OReshape, 0), 2, 1), of(api.OTurn, 1), of(api.OMatmul, 1, 2), of(api.OMatmul, 2, 1), with(of(api.OMax, 3), 0)), x, nil,
			args(x, table(2, 1, x.Data...), table(1, 2, x.Data...), table(2, 2, one, 3*one, 3*one, 9*one), table(1, 1, 10*one), row(3*one, 9*one))},
		// what is given, and a parameter, that are named again, two parameters, and ones on which nothing hangs
		{graphOf(input(2), input(2), param(3, 2), param(0), param(3, 2), of(api.ODiv, 1, 3), with(of(api.OJoin, 5, 4), 0)), x, args(cell(2*one), cell(1), row(1), w),
			args(x, x, w, cell(2*one), w, row(one/2, one+one/2), row(one/2, one+one/2, 4*one, -one))},
		{line(4), api.Tensor{}, nil, args(cell(1), cell(-1), cell(1), cell(-1))},
		{line(api.MaxNodes), api.Tensor{}, nil, slices.Repeat(args(cell(1), cell(-1)), api.MaxNodes/2)},
		{slices.Repeat(graphOf(param(7, 16, 4)), api.MaxNodes), api.Tensor{}, slices.Repeat(args(counted([]int{16, 4}, least)), 8), slices.Repeat(args(counted([]int{16, 4}, least)), api.MaxNodes)},
	} {
		checkAll(t, c.l, c.in, c.params, c.want, -1, api.OK)
	}
}

// P13.2: what may not be a graph, whatever is given.
func TestAllGraph(t *testing.T) {
	in, params := sample.Outside()
	for _, l := range sample.WrongGraphs() {
		checkAll(t, l, in, params, nil, -1, api.ErrGraph)
		checkAll(t, l, api.Tensor{}, nil, nil, -1, api.ErrGraph)
	}
	// Nodes ahead that have an error, or do not fit, do not matter.
	for _, ahead := range [][]api.Node{graphOf(input(9)), graphOf(number(-1), of(api.OSqrt, 0)), graphOf(number(1), with(of(api.OSum, 0), 0))} {
		checkAll(t, append(ahead, of(api.ONeg, 99)), in, params, nil, -1, api.ErrGraph)
		checkAll(t, append(ahead, of(0)), in, params, nil, -1, api.ErrGraph)
	}
}

// P13.2: a node that has an error, at each place of a graph, whether the last node hangs on it or not; of two, the first one; what does not fit is told ahead of it.
func TestAllFirst(t *testing.T) {
	first, in, params := sample.Ahead()
	for _, f := range sample.Failures() {
		for place := len(first); place < api.MaxNodes; place++ {
			l := append(slices.Clone(first), slices.Repeat(graphOf(of(api.ONeg, 1)), place-len(first))...)
			l = append(l, f.N)
			checkAll(t, l, in, params, nil, place, f.Err)
			if place == api.MaxNodes-1 {
				continue
			}
			for len(l) < api.MaxNodes {
				l = append(l, of(api.OTurn, place))
			}
			checkAll(t, l, in, params, nil, place, f.Err)
			last := api.MaxNodes - 1
			l[last] = number(4)
			checkAll(t, l, in, params, nil, place, f.Err)
			for _, other := range sample.Failures() {
				l[last] = other.N
				checkAll(t, l, in, params, nil, place, f.Err)
			}
			l[last] = with(of(api.OSum, 1), 0)
			checkAll(t, l, in, params, nil, last, api.ErrShape)
			l[last] = of(api.ONeg, last)
			checkAll(t, l, in, params, nil, -1, api.ErrGraph)
		}
	}
}

// P13.2: what is given may not be, or is of another shape than the graph asks for: at the first node that is given it.
func TestAllInput(t *testing.T) {
	wrong := append(sample.WrongTensors(), cell(1), row(1), row(1, 2, 3), table(2, 1, 1, 2), table(1, 2, 1, 2), sample.Of([]int{2}, 1), sample.Of([]int{2}, 1, 2, 3))
	for _, x := range wrong {
		for place := range api.MaxNodes {
			l := append(line(max(place, 1))[:place], input(2), input(2), of(api.ONeg, place))
			l = l[:min(len(l), api.MaxNodes)]
			checkAll(t, l, x, nil, nil, place, api.ErrInput)
			got, node, err := eval.All(l, row(1, 2), nil)
			if len(got) != len(l) || !same(got[place], row(1, 2)) || node != -1 || err != api.OK {
				t.Errorf("%v: %v, %d, %d", l, got, node, err)
			}
		}
		checkAll(t, line(2), x, args(x), args(cell(1), cell(-1)), -1, api.OK)
	}
}

// grown are all graphs of so many nodes, of eight kinds, behind what is given and a parameter.
func grown(count int) [][]api.Node {
	return sample.Grown(graphOf(input(2), param(1, 1, 2)), count, func(node int) []api.Node {
		var choice []api.Node
		for a := range node {
			choice = append(choice, of(api.OTurn, a), of(api.OSqrt, a), with(of(api.OSum, a), 0), with(of(api.OSlice, a), 0, 0, 1))
			for b := range node {
				choice = append(choice, of(api.OSub, a, b), of(api.ODiv, a, b), of(api.OMatmul, a, b))
			}
		}
		return append(choice, param(2))
	})
}

// valueOf is what a node of l is reckoned to, of what it is reckoned of, and so on.
func valueOf(l []api.Node, node int, in api.Tensor, params []api.Tensor) (api.Tensor, api.Errno) {
	var all []api.Tensor
	for _, arg := range l[node].Args {
		x, err := valueOf(l, arg, in, params)
		if err != api.OK {
			return api.Tensor{}, err
		}
		all = append(all, x)
	}
	return reckoned(l[node], all, in, params)
}

// valuesOf are what the nodes of l are reckoned to; else which one has an error, and which.
func valuesOf(l []api.Node, in api.Tensor, params []api.Tensor) ([]api.Tensor, int, api.Errno) {
	if _, node, err := infer.Shapes(l); err != api.OK {
		return nil, node, err
	}
	var all []api.Tensor
	for node := range l {
		x, err := valueOf(l, node, in, params)
		if err != api.OK {
			return nil, node, err
		}
		all = append(all, x)
	}
	return all, -1, api.OK
}

// P13.2: all graphs of up to three nodes of eight kinds behind what is given and a parameter.
func TestAllGrown(t *testing.T) {
	told := map[api.Errno]int{}
	given := args(row(9*one, one), row(2*one, -one), row(most, 1), row(0, 1))
	first := args(table(1, 2, one, 4*one), table(1, 2, 0, one), table(1, 2, -2, 2*one))
	second := args(cell(3), cell(0), cell(-1), api.Tensor{}, row(1))
	at := 0
	for count := range 4 {
		for _, l := range grown(count) {
			at++
			in, params := given[at%len(given)], args(cell(7), first[at%len(first)], second[at%len(second)])
			want, wantNode, wantErr := valuesOf(l, in, params)
			checkAll(t, l, in, params, want, wantNode, wantErr)
			told[wantErr]++
		}
	}
	for _, err := range []api.Errno{api.OK, api.ErrOver, api.ErrZero, api.ErrNeg, api.ErrShape, api.ErrInput} {
		if told[err] == 0 {
			t.Errorf("answers are %v, none of them %d", told, err)
		}
	}
}

// long is a longest graph that fails at its end, behind nodes that do not, and what it is of.
func long() ([]api.Node, api.Tensor, []api.Tensor) {
	l, in, params := sample.Ahead()
	for len(l) < api.MaxNodes-3 {
		last := len(l) - 1
		l = append(l, of(api.OTurn, last-1), with(of(api.OSlice, last), 0, 0, 1), of(api.OAdd, 0, 2), with(of(api.OJoin, last+3, 0), 0))
	}
	l = l[:api.MaxNodes-2]
	return append(l, of(api.OSub, 0, 5), of(api.ODiv, 0, 1)), in, params
}

// P13.3: the first ones of a longest graph that fails at its end are reckoned to what they are in one that does not, each of the shape that infer tells.
func TestAllFirstOnes(t *testing.T) {
	l, in, params := long()
	end := len(l) - 1
	checkAll(t, l, in, params, nil, end, api.ErrZero)
	all, node, err := eval.All(l[:end], in, params)
	if len(l) != api.MaxNodes || len(all) != end || node != -1 || err != api.OK {
		t.Fatalf("%v: %v, %d, %d", l, all, node, err)
	}
	shapes, _, _ := infer.Shapes(l)
	for first := 1; first <= end; first++ {
		checkAll(t, l[:first], in, params, all[:first], -1, api.OK)
		if x := all[first-1]; !tensor.Check(x) || !slices.Equal(x.Shape, shapes[first-1]) {
			t.Errorf("node %d of %v is %v; want the shape %v", first-1, l, x, shapes[first-1])
		}
	}
}

// P13.3: parameters that a graph does not name do not matter, whatever they are, and how many.
func TestAllUnnamed(t *testing.T) {
	l, in, params := long()
	l = l[:len(l)-1]
	want, _, err := eval.All(l, in, params)
	if err != api.OK {
		t.Fatalf("%v has %d", l, err)
	}
	for _, other := range append(sample.WrongTensors(), cell(7), row(1, 2)) {
		for count := 3; count < 20; count++ {
			others := slices.Repeat(args(other), count)
			copy(others[1:], params[1:3])
			checkAll(t, l, in, others, want, -1, api.OK)
		}
		checkAll(t, graphOf(number(3), of(api.ONeg, 0)), other, args(other), args(cell(3), cell(-3)), -1, api.OK)
	}
}

// R4: what is handed in is left as it was, its spare room too, and shares nothing with what is answered.
func TestNodeMemory(t *testing.T) {
	for _, f := range sample.Fits() {
		in, params := sample.Outside()
		nums, named := append(slices.Clone(f.N.Nums), 7, 7), []int{3, 4, 9}
		n := api.Node{Op: f.N.Op, Args: named[:2], Nums: nums[:len(f.N.Nums)]}
		in, handed := sample.Roomy(in)
		handed = append(handed, nums, named)
		var lists [][]int
		params[5], lists = sample.Roomy(params[5])
		handed = append(handed, lists...)
		var all []api.Tensor
		for _, x := range f.Args {
			x, lists = sample.Roomy(x)
			all, handed = append(all, x), append(handed, lists...)
		}
		all = append(all, cell(3), cell(4))
		before := fmt.Sprint(all, params)
		sample.Apart(t, fmt.Sprintf("op %d", n.Op), func() (api.Tensor, api.Errno) {
			return eval.Node(n, all[:len(f.Args)], in, params[:6])
		}, f.Want, handed...)
		if after := fmt.Sprint(all, params); after != before {
			t.Errorf("op %d: what was handed in is now %s, not %s", n.Op, after, before)
		}
	}
}

// R4: what is handed in is left as it was, its spare room too, and shares nothing with the tensors of a graph, nor do these with each other.
func TestAllMemory(t *testing.T) {
	in, handed := sample.Roomy(row(one, 4*one))
	w, lists := sample.Roomy(row(5, 6))
	params := args(api.Tensor{}, w, cell(3))
	size, both := []int{2, 1, 7}, []int{0, 1, 9}
	handed = append(handed, size, both)
	handed = append(handed, lists...)
	room := graphOf(input(2), param(1, 2), of(api.OAdd, both[:2]...), with(of(api.OReshape, 0), size[:2]...), with(of(api.OReshape, 1), 2), of(api.OTurn, 0), of(api.ORelu, 0),
		with(of(api.OSlice, 1), 0, 0, 2), input(2), param(1, 2), number(8), of(api.OMax))
	l := room[:len(room)-1]
	x, y := []int{one, 4 * one}, []int{5, 6}
	want := args(row(x...), row(y...), row(one+5, 4*one+6), table(2, 1, x...), row(y...), row(x...), row(x...), row(y...), row(x...), row(y...), cell(8))
	before := fmt.Sprint(room, handed, params)
	for range 3 {
		checkAll(t, l, in, params[:2], want, -1, api.OK)
		all, _, _ := eval.All(l, in, params[:2])
		sample.ListsApart(t, sample.ListsOf(all), sample.ListsOf(want))
		clear(all[:cap(all)])
		if after := fmt.Sprint(room, handed, params); after != before {
			t.Errorf("what was handed in is now %s, not %s", after, before)
		}
	}
}
