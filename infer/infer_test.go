package infer_test

import (
	"fmt"
	"slices"
	"testing"

	"fuller/api"
	"fuller/elem"
	"fuller/graph"
	"fuller/infer"
	"fuller/matmul"
	"fuller/move"
	"fuller/reduce"
	"fuller/sample"
	"fuller/shape"
	"fuller/tensor"
)

const (
	least = sample.Least
	most  = sample.Most
)

var of, with, input, param, number, graphOf, line = sample.Node, sample.With, sample.Input, sample.Param, sample.Number, sample.Graph, sample.Line

// shapes are some of no side to three.
func shapes() [][]int {
	return sample.Shapes(1, 2, 3, 8, 16)
}

// args are the shapes that a node is reckoned of.
func args(l ...[]int) [][]int {
	return l
}

// checkNode holds what Node answers against what it is to be.
func checkNode(t *testing.T, n api.Node, args [][]int, want []int, wantErr api.Errno) {
	t.Helper()
	got, err := infer.Node(n, args)
	if !slices.Equal(got, want) || err != wantErr {
		t.Errorf("op %d, %d numbers, at first %v, of %d shapes, at first %v: %v, %d; want %v, %d", n.Op, len(n.Nums), n.Nums[:min(len(n.Nums), 5)], len(args), args[:min(len(args), 3)], got, err, want, wantErr)
	}
}

// checkWrong holds that a node does not fit.
func checkWrong(t *testing.T, n api.Node, args [][]int) {
	t.Helper()
	checkNode(t, n, args, nil, api.ErrShape)
}

// checkShapes holds what Shapes answers against what it is to be.
func checkShapes(t *testing.T, l []api.Node, want [][]int, wantNode int, wantErr api.Errno) {
	t.Helper()
	got, node, err := infer.Shapes(l)
	if !slices.EqualFunc(got, want, slices.Equal[[]int]) || node != wantNode || err != wantErr {
		t.Errorf("%d nodes, at first %v: %v, %d, %d; want %v, %d, %d", len(l), l[:min(len(l), 6)], got, node, err, want, wantNode, wantErr)
	}
}

// P11.1: of no nodes, and of one.
func TestNodeOne(t *testing.T) {
	for _, c := range []struct {
		n       api.Node
		a, want []int
	}{
		{of(api.ONeg), []int{}, nil}, {of(api.ORelu), []int{2, 3}, []int{2, 3}}, {of(api.OPow), []int{16}, []int{16}}, {of(api.OSqrt), []int{4, 4, 4}, []int{4, 4, 4}},
		{of(api.OTurn), nil, nil}, {of(api.OTurn), []int{5}, []int{5}}, {of(api.OTurn), []int{2, 3}, []int{3, 2}}, {of(api.OTurn), []int{2, 3, 4}, []int{4, 3, 2}}, {of(api.OTurn), []int{1, 1, 16}, []int{16, 1, 1}},
		{with(of(api.OReshape)), nil, nil}, {with(of(api.OReshape)), []int{1, 1}, nil}, {with(of(api.OReshape), 1, 1, 1), nil, []int{1, 1, 1}}, {with(of(api.OReshape), 6), []int{2, 3}, []int{6}},
		{with(of(api.OReshape), 3, 2), []int{2, 3}, []int{3, 2}}, {with(of(api.OReshape), 16, 4), []int{4, 4, 4}, []int{16, 4}}, {with(of(api.OReshape), 2, 3), []int{2, 3}, []int{2, 3}},
		{with(of(api.OSlice), 0, 0, 1), []int{1}, []int{1}}, {with(of(api.OSlice), 0, 0, 16), []int{16}, []int{16}}, {with(of(api.OSlice), 0, 15, 16), []int{16}, []int{1}}, {with(of(api.OSlice), 0, 1, 2), []int{2, 3}, []int{1, 3}},
		{with(of(api.OSlice), 1, 0, 2), []int{2, 3}, []int{2, 2}}, {with(of(api.OSlice), 2, 1, 4), []int{2, 3, 4}, []int{2, 3, 3}}, {with(of(api.OSlice), 1, 1, 3), []int{2, 3, 4}, []int{2, 2, 4}},
		{with(of(api.OSum), 0), []int{5}, nil}, {with(of(api.OMean), 0), []int{2, 3, 4}, []int{3, 4}}, {with(of(api.OMax), 1), []int{2, 3, 4}, []int{2, 4}}, {with(of(api.OSum), 2), []int{2, 3, 4}, []int{2, 3}}, {with(of(api.OMax), 0), []int{1}, nil},
	} {
		checkNode(t, c.n, args(c.a), c.want, api.OK)
	}
	for _, none := range [][][]int{nil, {}} {
		checkNode(t, input(), none, nil, api.OK)
		checkNode(t, input(4, 4, 4), none, []int{4, 4, 4}, api.OK)
		checkNode(t, param(0), none, nil, api.OK)
		checkNode(t, param(7, 1, 16), none, []int{1, 16}, api.OK)
		checkNode(t, number(least), none, nil, api.OK)
		checkNode(t, number(3), none, nil, api.OK)
	}
}

// P11.1: of two nodes.
func TestNodeTwo(t *testing.T) {
	for _, c := range []struct {
		n          api.Node
		a, b, want []int
	}{
		{of(api.OAdd), nil, nil, nil}, {of(api.OAdd), []int{2, 3}, []int{3}, []int{2, 3}}, {of(api.OSub), []int{1, 4}, []int{2, 1}, []int{2, 4}}, {of(api.OMul), nil, []int{2, 3, 4}, []int{2, 3, 4}}, {of(api.ODiv), []int{2, 1, 3}, []int{5, 1}, []int{2, 5, 3}},
		{of(api.OMatmul), []int{2, 3}, []int{3, 4}, []int{2, 4}}, {of(api.OMatmul), []int{1, 16}, []int{16, 1}, []int{1, 1}}, {of(api.OMatmul), []int{16, 1}, []int{1, 4}, []int{16, 4}}, {of(api.OMatmul), []int{8, 8}, []int{8, 8}, []int{8, 8}},
		{with(of(api.OJoin), 0), []int{1}, []int{2}, []int{3}}, {with(of(api.OJoin), 0), []int{15}, []int{1}, []int{16}}, {with(of(api.OJoin), 0), []int{2, 3}, []int{4, 3}, []int{6, 3}}, {with(of(api.OJoin), 1), []int{2, 3}, []int{2, 1}, []int{2, 4}},
		{with(of(api.OJoin), 2), []int{4, 4, 3}, []int{4, 4, 1}, []int{4, 4, 4}}, {with(of(api.OJoin), 1), []int{2, 1, 2}, []int{2, 3, 2}, []int{2, 4, 2}}, {with(of(api.OJoin), 0), []int{8, 4}, []int{8, 4}, []int{16, 4}},
	} {
		checkNode(t, c.n, args(c.a, c.b), c.want, api.OK)
	}
}

// P11.1: what does not fit, though there are as many shapes, each may be, and so may the numbers.
func TestNodeWrong(t *testing.T) {
	for _, c := range []struct {
		n    api.Node
		args [][]int
	}{
		{of(api.OAdd), args([]int{2}, []int{3})}, {of(api.OSub), args([]int{2, 3}, []int{2})}, {of(api.OMul), args([]int{16, 1}, []int{8})}, {of(api.ODiv), args([]int{8, 1, 8}, []int{2, 1})},
		{of(api.OMatmul), args(nil, nil)}, {of(api.OMatmul), args([]int{3}, []int{3})}, {of(api.OMatmul), args([]int{3}, []int{3, 2})}, {of(api.OMatmul), args([]int{2, 3}, []int{3})}, {of(api.OMatmul), args([]int{1, 2, 3}, []int{3, 2})},
		{of(api.OMatmul), args([]int{2, 3}, []int{3, 2, 1})}, {of(api.OMatmul), args([]int{2, 3}, []int{2, 3})}, {of(api.OMatmul), args([]int{3, 2}, []int{3, 2})}, {of(api.OMatmul), args([]int{2, 1}, []int{3, 2})}, {of(api.OMatmul), args([]int{2, 3}, []int{1, 2})},
		{of(api.OMatmul), args([]int{16, 1}, []int{1, 5})}, {of(api.OMatmul), args([]int{13, 2}, []int{2, 5})}, {of(api.OMatmul), args([]int{16, 4}, []int{4, 16})},
		{with(of(api.OReshape)), args([]int{2})}, {with(of(api.OReshape), 5), args([]int{2, 3})}, {with(of(api.OReshape), 2), args(nil)}, {with(of(api.OReshape), 2, 3), args([]int{2, 3, 2})}, {with(of(api.OReshape), 16, 4), args([]int{16})},
		{with(of(api.OSlice), 0, 0, 1), args(nil)}, {with(of(api.OSlice), 1, 0, 1), args([]int{2})}, {with(of(api.OSlice), -1, 0, 1), args([]int{2})}, {with(of(api.OSlice), 0, -1, 1), args([]int{2})}, {with(of(api.OSlice), 0, 0, 0), args([]int{2})}, {with(of(api.OSlice), 0, 1, 1), args([]int{2})},
		{with(of(api.OSlice), 0, 2, 1), args([]int{2})}, {with(of(api.OSlice), 0, 0, 3), args([]int{2})}, {with(of(api.OSlice), 0, 2, 3), args([]int{2, 3})}, {with(of(api.OSlice), 0, least, most), args([]int{2})}, {with(of(api.OSlice), 0, most, least), args([]int{2})},
		{with(of(api.OJoin), 0), args(nil, nil)}, {with(of(api.OJoin), 0), args([]int{2}, nil)}, {with(of(api.OJoin), 0), args(nil, []int{2})}, {with(of(api.OJoin), 1), args([]int{2}, []int{2})}, {with(of(api.OJoin), -1), args([]int{2}, []int{2})}, {with(of(api.OJoin), 1), args([]int{2, 3}, []int{2})},
		{with(of(api.OJoin), 0), args([]int{2}, []int{2, 3})}, {with(of(api.OJoin), 0), args([]int{2, 3}, []int{2})}, {with(of(api.OJoin), 0), args([]int{2, 3}, []int{2, 1})}, {with(of(api.OJoin), 1), args([]int{2, 3}, []int{1, 3})}, {with(of(api.OJoin), 1), args([]int{2, 3, 1}, []int{2, 3, 2})},
		{with(of(api.OJoin), 0), args([]int{16}, []int{1})}, {with(of(api.OJoin), 0), args([]int{9}, []int{8})}, {with(of(api.OJoin), 1), args([]int{5, 12}, []int{5, 1})}, {with(of(api.OJoin), 0), args([]int{4, 4, 4}, []int{1, 4, 4})},
		{with(of(api.OSum), 0), args(nil)}, {with(of(api.OMean), 1), args([]int{2})}, {with(of(api.OMax), -1), args([]int{2})}, {with(of(api.OSum), 3), args([]int{2, 3, 4})}, {with(of(api.OMean), most), args([]int{2, 3})}, {with(of(api.OMax), least), args([]int{2, 3})},
	} {
		checkWrong(t, c.n, c.args)
	}
}

// reckoned is the shape of what the layers below make of tensors of these shapes, all of One, by a node's op and numbers.
func reckoned(n api.Node, args [][]int) ([]int, api.Errno) {
	var x [2]api.Tensor
	for i, s := range args {
		x[i], _ = tensor.Full(s, api.One)
	}
	var got api.Tensor
	var err api.Errno
	switch n.Op {
	case api.OInput:
		got, err = tensor.Full(n.Nums, 0)
	case api.OParam:
		got, err = tensor.Full(n.Nums[1:], 0)
	case api.OConst:
		got, err = tensor.Full(nil, n.Nums[0])
	case api.OAdd, api.OSub, api.OMul, api.ODiv:
		got, err = elem.Two(n.Op, x[0], x[1])
	case api.ONeg, api.ORelu, api.OPow, api.OSqrt:
		got, err = elem.One(n.Op, x[0])
	case api.OMatmul:
		got, err = matmul.Mul(x[0], x[1])
	case api.OReshape:
		got, err = move.Reshape(x[0], n.Nums)
	case api.OTurn:
		got, err = move.Turn(x[0])
	case api.OSlice:
		got, err = move.Slice(x[0], n.Nums[0], n.Nums[1], n.Nums[2])
	case api.OJoin:
		got, err = move.Join(x[0], x[1], n.Nums[0])
	case api.OSum:
		got, err = reduce.Sum(x[0], n.Nums[0])
	case api.OMean:
		got, err = reduce.Mean(x[0], n.Nums[0])
	case api.OMax:
		got, err = reduce.Max(x[0], n.Nums[0])
	}
	return got.Shape, err
}

// numbersOf are Nums of an op, of which some fit and some do not.
func numbersOf(op int) [][]int {
	if op != api.OSlice {
		return sample.RightNums(op)
	}
	var all [][]int
	ends := []int{least, -1 << 32, -1, 0, 1, 2, 3, 4, 7, 8, 9, 15, 16, 17, 1 << 32, most}
	for _, axis := range []int{least, -1, 0, 1, 2, 3, 1 << 32, most} {
		for _, from := range ends {
			for _, to := range ends {
				all = append(all, []int{axis, from, to})
			}
		}
	}
	return all
}

// argsOf are all lists of so many shapes.
func argsOf(count int) [][][]int {
	return slices.DeleteFunc(sample.Lists(count, shapes()...), func(l [][]int) bool { return len(l) != count })
}

// P11.1, P11.3: each op, with numbers that fit and that don't, of all shapes, is as it is reckoned.
func TestNodeAll(t *testing.T) {
	for count, ops := range sample.Ops() {
		all := argsOf(count)
		for _, op := range ops {
			for _, nums := range numbersOf(op) {
				n := with(of(op), nums...)
				for _, args := range all {
					want, wantErr := reckoned(n, args)
					checkNode(t, n, args, want, wantErr)
					if wantErr == api.OK && !shape.Check(want) {
						t.Errorf("%v of %v is of %v, which may not be", n, args, want)
					}
				}
			}
		}
	}
}

// fit is a node that fits to some shapes, and the shape that it has then.
type fit struct {
	n    api.Node
	args [][]int
	want []int
}

// fits are one of each op.
func fits() []fit {
	table, turned := []int{2, 3}, []int{3, 2}
	return []fit{
		{input(2, 3), nil, table},
		{param(5, 2, 3), nil, table},
		{number(4), nil, nil},
		{of(api.OAdd), args(table, table), table},
		{of(api.OSub), args(table, table), table},
		{of(api.OMul), args(table, table), table},
		{of(api.ODiv), args(table, table), table},
		{of(api.ONeg), args(table), table},
		{of(api.ORelu), args(table), table},
		{of(api.OPow), args(table), table},
		{of(api.OSqrt), args(table), table},
		{of(api.OMatmul), args(table, turned), []int{2, 2}},
		{with(of(api.OReshape), 3, 2), args(table), turned},
		{of(api.OTurn), args(table), turned},
		{with(of(api.OSlice), 0, 1, 2), args(table), []int{1, 3}},
		{with(of(api.OJoin), 1), args(table, table), []int{2, 6}},
		{with(of(api.OSum), 1), args(table), []int{2}},
		{with(of(api.OMean), 1), args(table), []int{2}},
		{with(of(api.OMax), 1), args(table), []int{2}},
	}
}

// P11.1: as many shapes as an op is reckoned of, and no others.
func TestNodeCount(t *testing.T) {
	for _, f := range fits() {
		checkNode(t, f.n, f.args, f.want, api.OK)
		for count := range f.args {
			checkWrong(t, f.n, f.args[:count])
		}
		for _, s := range [][]int{nil, {1}, {2, 3}, {0}} {
			checkWrong(t, f.n, append(slices.Clone(f.args), s))
			for _, count := range []int{3, 4, 19, 255, 256, 257, 100000} {
				checkWrong(t, f.n, slices.Repeat(args(s), count))
			}
		}
	}
}

// P11.1: a shape that may not be, at each place.
func TestNodeShape(t *testing.T) {
	wrong := append(sample.WrongShapes(), make([]int, 100000), slices.Repeat([]int{1}, 100000))
	for _, f := range fits() {
		for place := range f.args {
			for _, s := range wrong {
				changed := slices.Clone(f.args)
				changed[place] = s
				checkWrong(t, f.n, changed)
				checkWrong(t, f.n, slices.Repeat(args(s), len(f.args)))
			}
		}
	}
	// Of these each would fit, if it might be, or what it is reckoned to might be.
	checkWrong(t, with(of(api.OSlice), 0, 0, 2), args([]int{17}))
	checkWrong(t, with(of(api.OSum), 0), args([]int{17}))
	checkWrong(t, with(of(api.OSum), 0), args([]int{2, 4, 4, 4}))
	checkWrong(t, with(of(api.OMax), 1), args([]int{2, 0}))
	checkWrong(t, with(of(api.OReshape)), args([]int{-1, -1}))
	checkWrong(t, with(of(api.OJoin), 0), args([]int{-1}, []int{3}))
	checkWrong(t, with(of(api.OJoin), 0), args([]int{3}, []int{0}))
	checkWrong(t, of(api.OMatmul), args([]int{2, 17}, []int{17, 2}))
	checkWrong(t, of(api.OMatmul), args([]int{2, 0}, []int{0, 2}))
}

// P11.1: Nums that are none of an op, of shapes that it would fit to.
func TestNodeNums(t *testing.T) {
	for _, f := range fits() {
		for _, nums := range sample.WrongNums(f.n.Op) {
			checkWrong(t, with(f.n, nums...), f.args)
		}
	}
}

// P11.1: what is no op, of none to three.
func TestNodeOp(t *testing.T) {
	for _, op := range sample.WrongOps() {
		for _, nums := range [][]int{nil, {0}, {1}, {0, 1}, {0, 0, 1}} {
			for count := range 4 {
				checkWrong(t, with(of(op), nums...), slices.Repeat(args([]int{1, 1}), count))
			}
		}
	}
}

// P11.1: whom a node names does not matter, since the shapes of them are told.
func TestNodeArgs(t *testing.T) {
	for _, f := range fits() {
		for _, named := range [][]int{nil, {}, {0}, {0, 0}, {7, -1, 3}, {least, most}, make([]int, 100000)} {
			f.n.Args = named
			checkNode(t, f.n, f.args, f.want, api.OK)
		}
	}
}

// P11.2
func TestShapes(t *testing.T) {
	for _, c := range []struct {
		l    []api.Node
		want [][]int
	}{
		{graphOf(number(1)), [][]int{nil}},
		{graphOf(input(2, 3), of(api.OTurn, 0), of(api.OMatmul, 0, 1)), [][]int{{2, 3}, {3, 2}, {2, 2}}},
		{graphOf(input(2, 3), of(api.OTurn, 0), of(api.OMatmul, 1, 0)), [][]int{{2, 3}, {3, 2}, {3, 3}}},
		{graphOf(param(5, 2, 3), input(3), of(api.OMul, 0, 0), with(of(api.OSum, 0), 1), of(api.OAdd, 1, 2)), [][]int{{2, 3}, {3}, {2, 3}, {2}, {2, 3}}},
		{graphOf(input(3), param(0, 4, 1), with(of(api.OSlice, 0), 0, 1, 3), of(api.ODiv, 2, 1), with(of(api.OJoin, 3, 1), 1), with(of(api.OMax, 4), 0), with(of(api.OMean, 5), 0)), [][]int{{3}, {4, 1}, {2}, {4, 2}, {4, 3}, {3}, nil}},
		{graphOf(number(1), with(of(api.OReshape, 0), 1, 1), of(api.OSqrt, 1), of(api.OSub, 0, 2)), [][]int{nil, {1, 1}, {1, 1}, {1, 1}}},
		// what is given, and a parameter, that are named again, and ones on which nothing hangs
		{graphOf(input(2), input(2), param(1), param(1), of(api.ORelu, 1)), [][]int{{2}, {2}, nil, nil, {2}}},
		{line(api.MaxNodes), slices.Repeat([][]int{nil}, api.MaxNodes)},
		{slices.Repeat(graphOf(param(7, 16, 4)), api.MaxNodes), slices.Repeat([][]int{{16, 4}}, api.MaxNodes)},
	} {
		checkShapes(t, c.l, c.want, -1, api.OK)
	}
}

// P11.2: what may not be a graph, whether it has nodes that don't fit, ahead, or not.
func TestShapesGraph(t *testing.T) {
	checkShapes(t, nil, nil, -1, api.ErrGraph)
	checkShapes(t, []api.Node{}, nil, -1, api.ErrGraph)
	misfit := with(of(api.OSum, 0), 0)
	for _, count := range []int{25, 26, 256, 100000} {
		checkShapes(t, line(count), nil, -1, api.ErrGraph)
		checkShapes(t, append(graphOf(number(1), misfit), line(count)...), nil, -1, api.ErrGraph)
	}
	for _, wrong := range []api.Node{
		{}, of(4), of(-1), of(99, 0), of(api.OConst), with(of(api.OConst, 0), 1), param(8), param(-1), param(0, 17), param(3, 2), input(0), input(2), of(api.ONeg), of(api.ONeg, 4), of(api.ONeg, -1), of(api.OAdd, 0, 4),
		of(api.OAdd, 0), with(of(api.ONeg, 0), 1), of(api.OSum, 0), with(of(api.OSlice, 0), 0, 0), with(of(api.OReshape, 0), 17), with(of(api.OReshape, 0), 0), of(api.OJoin, 0, 1),
	} {
		for _, n := range []api.Node{number(2), misfit} {
			checkShapes(t, graphOf(number(1), n, param(3), input(3), wrong), nil, -1, api.ErrGraph)
			checkShapes(t, graphOf(number(1), n, param(3), input(3), wrong, number(5)), nil, -1, api.ErrGraph)
		}
	}
	checkShapes(t, graphOf(of(api.ONeg, 0)), nil, -1, api.ErrGraph)
	checkShapes(t, graphOf(of(api.ONeg, 1), number(1)), nil, -1, api.ErrGraph)
}

// misfits are nodes that do not fit to the first ones of a graph, whose shapes are 2, 3, and 4, and none, in each way in which they may not.
func misfits() []api.Node {
	return graphOf(
		of(api.OAdd, 0, 1), of(api.OSub, 1, 0), of(api.OMul, 0, 1), of(api.ODiv, 1, 0),
		of(api.OMatmul, 0, 0), of(api.OMatmul, 0, 1), of(api.OMatmul, 1, 0), of(api.OMatmul, 2, 2),
		with(of(api.OReshape, 0), 5), with(of(api.OReshape, 1)), with(of(api.OReshape, 2), 2),
		with(of(api.OSlice, 0), 2, 0, 1), with(of(api.OSlice, 0), -1, 0, 1), with(of(api.OSlice, 0), 1, -1, 1), with(of(api.OSlice, 0), 1, 2, 2), with(of(api.OSlice, 0), 0, 0, 3), with(of(api.OSlice, 2), 0, 0, 1),
		with(of(api.OJoin, 0, 1), 0), with(of(api.OJoin, 1, 1), 1), with(of(api.OJoin, 0, 2), 0), with(of(api.OJoin, 2, 2), 0), with(of(api.OJoin, 0, 0), -1),
		with(of(api.OSum, 0), 2), with(of(api.OMean, 2), 0), with(of(api.OMax, 1), -1), with(of(api.OMax, 0), most), with(of(api.OSum, 0), least),
	)
}

// P11.2: a node that does not fit, at each place of a graph, whether the last node hangs on it or not; of two, the first one.
func TestShapesFirst(t *testing.T) {
	ahead := graphOf(input(2, 3), param(6, 4), number(1))
	for _, n := range misfits() {
		for place := len(ahead); place < api.MaxNodes; place++ {
			l := append(slices.Clone(ahead), slices.Repeat(graphOf(of(api.ONeg, 1)), place-len(ahead))...)
			l = append(l, n)
			checkShapes(t, l, nil, place, api.ErrShape)
			for len(l) < api.MaxNodes {
				l = append(l, of(api.ONeg, place))
			}
			checkShapes(t, l, nil, place, api.ErrShape)
			for _, other := range misfits() {
				l[api.MaxNodes-1] = other
				checkShapes(t, l, nil, place, api.ErrShape)
			}
		}
	}
	// Joined up to the greatest side there may be, and once more.
	l := graphOf(param(0, 1))
	for node := range 5 {
		l = append(l, with(of(api.OJoin, node, node), 0))
	}
	checkShapes(t, l[:5], [][]int{{1}, {2}, {4}, {8}, {16}}, -1, api.OK)
	checkShapes(t, l, nil, 5, api.ErrShape)
	checkShapes(t, append(l, number(1), with(of(api.OSum, 6), 0)), nil, 5, api.ErrShape)
}

// grown are all graphs of so many nodes, of seven kinds, behind what is given and a parameter.
func grown(count int) [][]api.Node {
	return sample.Grown(graphOf(input(2, 3), param(1, 2)), count, func(node int) []api.Node {
		var choice []api.Node
		for a := range node {
			choice = append(choice, of(api.OTurn, a), with(of(api.OSum, a), 0), with(of(api.OSlice, a), 0, 1, 2), with(of(api.OReshape, a), 6))
			for b := range node {
				choice = append(choice, of(api.OMul, a, b), of(api.OMatmul, a, b), with(of(api.OJoin, a, b), 0))
			}
		}
		return choice
	})
}

// shapeOf is the shape of a node of l, as it is reckoned, of what it is reckoned of, and so on.
func shapeOf(l []api.Node, node int) ([]int, api.Errno) {
	var all [][]int
	for _, arg := range l[node].Args {
		s, err := shapeOf(l, arg)
		if err != api.OK {
			return nil, err
		}
		all = append(all, s)
	}
	return reckoned(l[node], all)
}

// P11.2, P11.3: all graphs of up to three nodes of seven kinds behind what is given and a parameter, and the first ones of their nodes.
func TestShapesAll(t *testing.T) {
	for count := range 4 {
		for _, l := range grown(count) {
			var want [][]int
			for node := range l {
				s, err := shapeOf(l, node)
				if err != api.OK {
					checkShapes(t, l, nil, node, api.ErrShape)
					want = nil
					break
				}
				want = append(want, s)
			}
			for first := 1; first <= len(want); first++ {
				checkShapes(t, l[:first], want[:first], -1, api.OK)
			}
			if slices.ContainsFunc(want, func(s []int) bool { return !shape.Check(s) }) {
				t.Errorf("%v has %v, one of which may not be", l, want)
			}
		}
	}
}

// P11.3: the first ones of a longest graph that does not fit at its end have the shapes that they have in one that does.
func TestShapesFirstOnes(t *testing.T) {
	l := graphOf(input(2, 3), param(2, 3, 4))
	for len(l) < api.MaxNodes-2 {
		last := len(l) - 1
		l = append(l, of(api.OTurn, last-1), of(api.ONeg, last))
	}
	l = append(l, of(api.OMatmul, 0, 1), with(of(api.OSlice, len(l)), 1, 3, 4))
	all, node, err := infer.Shapes(l)
	if len(all) != len(l) || node != -1 || err != api.OK || !slices.Equal(all[len(l)-1], []int{2, 1}) {
		t.Fatalf("%v: %v, %d, %d", l, all, node, err)
	}
	for first := 1; first <= len(l); first++ {
		checkShapes(t, l[:first], all[:first], -1, api.OK)
		if !graph.Check(l[:first]) || !shape.Check(all[first-1]) {
			t.Errorf("%v may not be, or is of %v", l[:first], all[first-1])
		}
	}
}

// R4: what is handed in is left as it was, its spare room too, and shares nothing with what is answered.
func TestNodeMemory(t *testing.T) {
	for _, f := range fits() {
		nums, named := append(slices.Clone(f.n.Nums), 7, 7), []int{3, 4, 9}
		n := api.Node{Op: f.n.Op, Args: named[:2], Nums: nums[:len(f.n.Nums)]}
		var sides, handed [][]int
		for i, s := range f.args {
			sides = append(sides, append(slices.Clone(s), 8, 8))
			handed = append(handed, sides[i][:len(s)])
		}
		before := fmt.Sprint(nums, named, sides)
		for range 3 {
			got, err := infer.Node(n, handed)
			if !slices.Equal(got, f.want) || err != api.OK {
				t.Errorf("op %d: %v, %d; want %v", n.Op, got, err, f.want)
			}
			sample.Overwrite(got)
			if after := fmt.Sprint(nums, named, sides); after != before {
				t.Errorf("op %d: what was handed in is now %s, not %s", n.Op, after, before)
			}
		}
	}
}

// R4: what is handed in is left as it was, its spare room too, and shares nothing with the shapes of a graph, nor do these with each other.
func TestShapesMemory(t *testing.T) {
	given, named := []int{2, 3, 7, 7}, []int{0, 0, 9, 9}
	room := graphOf(with(of(api.OInput), given[:2]...), of(api.OAdd, named[:2]...), param(4, 2, 3), of(api.ONeg, 0), of(api.OMul, 0, 2), with(of(api.OReshape, 0), given[:2]...), with(of(api.OSlice, 5), 0, 0, 2), of(api.OTurn, 1), of(api.OMax))
	wants := [][]int{{2, 3}, {2, 3}, {2, 3}, {2, 3}, {2, 3}, {2, 3}, {2, 3}, {3, 2}}
	before := fmt.Sprint(room, given, named)
	for range 3 {
		l := room[:8]
		checkShapes(t, l, wants, -1, api.OK)
		all, _, _ := infer.Shapes(l)
		sample.ListsApart(t, all, wants)
		clear(all[:cap(all)])
		if after := fmt.Sprint(room, given, named); after != before {
			t.Errorf("what was handed in is now %s, not %s", after, before)
		}
	}
}
