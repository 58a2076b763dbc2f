package grad_test

import (
	"fmt"
	"slices"
	"testing"

	"fuller/api"
	"fuller/eval"
	"fuller/fix"
	"fuller/grad"
	"fuller/graph"
	"fuller/infer"
	"fuller/sample"
	"fuller/words"
)

const (
	one   = api.One
	least = sample.Least
	most  = sample.Most
)

var (
	of, with, input, param, number, graphOf, line = sample.Node, sample.With, sample.Input, sample.Param, sample.Number, sample.Graph, sample.Line
	filled, counted, row, cell, table             = sample.Filled, sample.Counted, sample.Row, sample.Cell, sample.Table
	args                                          = sample.Tensors
)

// slopes are those of some parameters; of all others there are none.
type slopes map[int]api.Tensor

// listed are slopes, as All tells them.
func (s slopes) listed() []api.Tensor {
	all := make([]api.Tensor, 8)
	for p, x := range s {
		all[p] = x
	}
	return all
}

// checkAll holds what All answers against what it is to be.
func checkAll(t *testing.T, l []api.Node, in api.Tensor, params, want []api.Tensor, wantLoss, wantNode int, wantErr api.Errno) {
	t.Helper()
	got, loss, node, err := grad.All(l, in, params)
	if !slices.EqualFunc(got, want, sample.Same) || loss != wantLoss || node != wantNode || err != wantErr {
		t.Errorf("%d nodes, %v, given %v, and %v: %v, %d, %d, %d; want %v, %d, %d, %d", len(l), l[:min(len(l), 24)], in, params[:min(len(params), 8)], got, loss, node, err, want, wantLoss, wantNode, wantErr)
	}
}

// checkWrong holds that a graph has an error, beside which there is nothing.
func checkWrong(t *testing.T, l []api.Node, in api.Tensor, params []api.Tensor, wantNode int, wantErr api.Errno) {
	t.Helper()
	checkAll(t, l, in, params, nil, 0, wantNode, wantErr)
}

// job is a graph, what it is of, and what it comes to.
type job struct {
	l      []api.Node
	in     api.Tensor
	params []api.Tensor
	want   slopes
	loss   int
}

// P15.1: what is used once, more than once, and not at all; which parameters are named, and how often.
func TestAll(t *testing.T) {
	none := api.Tensor{}
	three, five, two := cell(3*one), cell(5*one), cell(2*one)
	var eight, sums []api.Node
	for p := range 8 {
		eight = append(eight, param(7-p))
		if p > 0 {
			sums = append(sums, of(api.OSub, 6+p, p))
		}
	}
	sums[0].Args = []int{0, 1}
	for _, c := range []job{
		{graphOf(param(0), of(api.OMul, 0, 0)), none, args(three), slopes{0: cell(6 * one)}, 9 * one},
		{graphOf(param(7)), none, append(make([]api.Tensor, 7), cell(least)), slopes{7: cell(one)}, least},
		{graphOf(param(2, 1, 1)), none, args(none, none, table(1, 1, 5)), slopes{2: table(1, 1, one)}, 5},
		{graphOf(input()), cell(-4), nil, slopes{}, -4}, {graphOf(input(1)), row(7), nil, slopes{}, 7}, {graphOf(number(most)), none, nil, slopes{}, most}, {line(24), none, nil, slopes{}, -1},
		{graphOf(input(), param(0), of(api.OMul, 0, 1), of(api.OAdd, 1, 2)), five, args(three), slopes{0: cell(6 * one)}, 18 * one},
		{graphOf(input(), param(0), of(api.OMul, 0, 1), of(api.OSub, 1, 2)), five, args(three), slopes{0: cell(-4 * one)}, -12 * one},
		{graphOf(param(0), param(1), of(api.OMul, 0, 1), of(api.OSub, 2, 1)), none, args(three, five), slopes{0: five, 1: two}, 10 * one},
		{graphOf(param(1), param(0), of(api.OMul, 0, 1), of(api.OSub, 2, 1)), none, args(three, five), slopes{0: cell(4 * one), 1: three}, 12 * one},
		// a parameter that is named more than once, of which one node is live, or none
		{graphOf(param(4), param(4), of(api.OMul, 0, 1), param(4), of(api.OMul, 2, 3)), none, args(none, none, none, none, two), slopes{4: cell(12 * one)}, 8 * one},
		{graphOf(param(3), param(3), of(api.ONeg, 1)), none, args(none, none, none, three), slopes{3: cell(-one)}, -3 * one}, {graphOf(param(3), param(3), of(api.ONeg, 0)), none, args(none, none, none, three), slopes{3: cell(-one)}, -3 * one},
		{graphOf(param(0, 2, 3), param(1), of(api.ONeg, 1)), none, args(counted([]int{2, 3}, least), three), slopes{0: filled([]int{2, 3}, 0), 1: cell(-one)}, -3 * one},
		{graphOf(param(0), param(1), of(api.OMul, 0, 1), of(api.ONeg, 1)), none, args(five, three), slopes{0: cell(0), 1: cell(-one)}, -3 * one}, {graphOf(param(6), param(6), of(api.OMul, 0, 1), number(5)), none, slices.Repeat(args(three), 7), slopes{6: cell(0)}, 5},
		// by 0, it is named and live
		{graphOf(param(0), number(0), of(api.OMul, 0, 1)), none, args(three), slopes{0: cell(0)}, 0}, {graphOf(param(0), of(api.OSub, 0, 0)), none, args(three), slopes{0: cell(0)}, 0},
		{append(graphOf(param(0)), sample.Line(24)[1:]...), none, args(three), slopes{0: cell(-one)}, -3 * one},
		{append(eight, sums...), none, args(cell(1), cell(2), cell(3), cell(4), cell(5), cell(6), cell(7), cell(40)),
			slopes{0: cell(-one), 1: cell(-one), 2: cell(-one), 3: cell(-one), 4: cell(-one), 5: cell(-one), 6: cell(-one), 7: cell(one)}, 12},
	} {
		checkAll(t, c.l, c.in, c.params, c.want.listed(), c.loss, -1, api.OK)
	}
}

// P15.1: each op, on the way from a parameter to the loss.
func TestAllOps(t *testing.T) {
	x := table(2, 2, one, 2*one, 3*one, 4*one)
	w, v := table(1, 2, one, 2*one), table(2, 1, 3*one, -one)
	sum := func(node, axis int) api.Node { return with(of(api.OSum, node), axis) }
	for _, c := range []job{
		{graphOf(input(2, 2), param(0, 2), of(api.OAdd, 0, 1), sum(2, 0), sum(3, 0)), x, args(row(one, -one)), slopes{0: row(2*one, 2*one)}, 10 * one},
		{graphOf(input(2, 2), param(0, 2), of(api.OSub, 0, 1), sum(2, 1), sum(3, 0)), x, args(row(one, one)), slopes{0: row(-2*one, -2*one)}, 6 * one},
		{graphOf(input(2, 2), param(0, 2, 1), of(api.OMul, 0, 1), sum(2, 1), sum(3, 0)), x, args(table(2, 1, one, -one)), slopes{0: table(2, 1, 3*one, 7*one)}, -4 * one},
		{graphOf(input(), param(0), of(api.ODiv, 1, 0)), cell(4 * one), args(cell(6 * one)), slopes{0: cell(one / 4)}, 3 * one / 2}, {graphOf(input(), param(0), of(api.ODiv, 0, 1)), cell(6 * one), args(cell(4 * one)), slopes{0: cell(-3 * one / 8)}, 3 * one / 2},
		{graphOf(param(0), of(api.ONeg, 0)), x, args(cell(5)), slopes{0: cell(-one)}, -5}, {graphOf(param(0, 3), of(api.ORelu, 0), sum(1, 0)), x, args(row(5*one, -5*one, 0)), slopes{0: row(one, 0, 0)}, 5 * one},
		{graphOf(param(0), of(api.OPow, 0)), x, args(cell(one)), slopes{0: cell(2 * one)}, 2 * one}, {graphOf(param(0), of(api.OSqrt, 0)), x, args(cell(4 * one)), slopes{0: cell(one / 4)}, 2 * one},
		{graphOf(param(0, 1, 2), param(1, 2, 1), of(api.OMatmul, 0, 1)), x, args(w, v), slopes{0: table(1, 2, 3*one, -one), 1: table(2, 1, one, 2*one)}, one},
		{graphOf(param(0, 2, 3), of(api.OTurn, 0), with(of(api.OSlice, 1), 0, 1, 2), with(of(api.OReshape, 2), 2), with(of(api.OSlice, 3), 0, 1, 2)), x, args(counted([]int{2, 3}, 0)), slopes{0: table(2, 3, 0, 0, 0, 0, one, 0)}, 4},
		{graphOf(input(4), param(0, 2), with(of(api.OJoin, 1, 1), 0), of(api.OMul, 2, 0), sum(3, 0)), row(one, 2*one, 3*one, 4*one), args(row(one, 2*one)), slopes{0: row(4*one, 6*one)}, 16 * one},
		{graphOf(param(0, 4), with(of(api.OMean, 0), 0)), x, args(row(1, 2, 3, -10)), slopes{0: row(one/4, one/4, one/4, one/4)}, -1}, {graphOf(param(0, 3), with(of(api.OMax, 0), 0)), x, args(row(1, 7, 7)), slopes{0: row(0, one, 0)}, 7},
	} {
		checkAll(t, c.l, c.in, c.params, c.want.listed(), c.loss, -1, api.OK)
	}
}

// added is what numbers come to, each added behind those ahead of it, and where that is too great; -1, if nowhere.
func added(numbers ...int) (int, int) {
	sum := 0
	for place, n := range numbers {
		var err api.Errno
		if sum, err = fix.Add(sum, n); err != api.OK {
			return 0, place
		}
	}
	return sum, -1
}

// P15.1: what hangs on a node is added from the last one that uses it on, and is too great at the one that is added.
func TestAllUsers(t *testing.T) {
	for _, by := range sample.Lists(4, sample.Ends()...)[1:] {
		c := sample.UsedBy(by)
		last := slices.Clone(by)
		slices.Reverse(last)
		sum, place := added(last...)
		if place < 0 {
			checkAll(t, c.L, c.In, c.Params, slopes{5: cell(sum)}.listed(), 0, -1, api.OK)
		} else {
			// behind the parameter, and the numbers
			checkWrong(t, c.L, c.In, c.Params, 2*len(by)-place, api.ErrOver)
		}
	}
}

// P15.1: slopes are added from the last node on that names the parameter, and are too great at the one that is added.
func TestAllNamed(t *testing.T) {
	for _, by := range sample.Lists(4, sample.Ends()...)[1:] {
		c := sample.NamedBy(by)
		last := slices.Clone(by)
		slices.Reverse(last)
		sum, place := added(last...)
		if place < 0 {
			checkAll(t, c.L, c.In, c.Params, slopes{5: cell(sum)}.listed(), 0, -1, api.OK)
		} else {
			checkWrong(t, c.L, c.In, c.Params, len(by)-1-place, api.ErrOver)
		}
	}
}

// P15.1: what hangs on a node is added ahead of being added to its parameter's slopes.
func TestAllNamedAndUsed(t *testing.T) {
	for _, by := range sample.Threes() {
		c := sample.NamedTwice(by)
		first, over := added(by[2], by[0])
		sum, both := added(by[1], first)
		switch {
		case over >= 0:
			checkWrong(t, c.L, c.In, c.Params, 5, api.ErrOver)
		case both >= 0:
			checkWrong(t, c.L, c.In, c.Params, 0, api.ErrOver)
		default:
			checkAll(t, c.L, c.In, c.Params, slopes{0: cell(sum)}.listed(), 0, -1, api.OK)
		}
	}
}

// P15.1: of a node that is both Args of another one, what hangs on it behind that is there first, then for the first Arg, then for the second one.
func TestAllBoth(t *testing.T) {
	for _, by := range sample.Threes() {
		c := sample.JoinedTwice(by)
		sum, over := added(by[:]...)
		if over < 0 {
			checkAll(t, c.L, c.In, c.Params, slopes{0: row(sum), 1: cell(0)}.listed(), 0, -1, api.OK)
		} else {
			checkWrong(t, c.L, c.In, c.Params, 3, api.ErrOver)
		}
	}
	for _, c := range []struct{ op, ahead, by, want int }{
		{api.OSub, most, -1, most}, {api.OSub, least, 1, least}, {api.OSub, 5, -most, 5}, {api.OSub, -5, most, -5}, {api.OAdd, -1, 1 << 62, most}, {api.OAdd, 0, -1 << 62, least}, {api.OAdd, 1, -1 << 62, least + 1},
	} {
		b := sample.Both(c.op, c.ahead, c.by)
		checkAll(t, b.L, b.In, b.Params, slopes{0: cell(c.want)}.listed(), 0, -1, api.OK)
	}
	for _, c := range []struct{ op, ahead, by int }{
		{api.OSub, most, 1}, {api.OSub, least, -1}, {api.OSub, 5, most}, {api.OSub, 0, least}, {api.OAdd, 0, 1 << 62}, {api.OAdd, -1, -1 << 62}, {api.OAdd, most, 1}, {api.OAdd, 1, most},
	} {
		b := sample.Both(c.op, c.ahead, c.by)
		checkWrong(t, b.L, b.In, b.Params, 3, api.ErrOver)
	}
}

// P15.1: what may not be a graph, whatever is given.
func TestAllGraph(t *testing.T) {
	in, params := sample.Outside()
	for _, l := range sample.WrongGraphs() {
		checkWrong(t, l, in, params, -1, api.ErrGraph)
		checkWrong(t, l, api.Tensor{}, nil, -1, api.ErrGraph)
	}
	// Nodes ahead that have an error, or do not fit, do not matter.
	for _, ahead := range [][]api.Node{graphOf(input(9)), graphOf(number(-1), of(api.OSqrt, 0)), graphOf(number(0), of(api.OSqrt, 0)), graphOf(number(1), with(of(api.OSum, 0), 0))} {
		checkWrong(t, append(ahead, of(api.ONeg, 99)), in, params, -1, api.ErrGraph)
		checkWrong(t, append(ahead, of(0)), in, params, -1, api.ErrGraph)
	}
}

// P15.1: a node that can't be reckoned, at each place of a graph, whether the last node hangs on it or not, is told ahead of a last node of two numbers, and of roots of 0; what does not fit, ahead of it.
func TestAllReckoned(t *testing.T) {
	first, in, params := sample.Ahead()
	for _, f := range sample.Failures() {
		for place := len(first); place < api.MaxNodes; place++ {
			l := append(slices.Clone(first), slices.Repeat(graphOf(of(api.OSqrt, 1)), place-len(first))...)
			l = append(l, f.N)
			checkWrong(t, l, in, params, place, f.Err)
			if place == api.MaxNodes-1 {
				continue
			}
			for len(l) < api.MaxNodes-1 {
				l = append(l, of(api.OTurn, place))
			}
			for _, last := range graphOf(of(api.OTurn, place), number(4), input(2), param(1, 2), of(api.OSqrt, 1), of(api.OSqrt, 2)) {
				checkWrong(t, append(l, last), in, params, place, f.Err)
			}
			checkWrong(t, append(l, with(of(api.OSum, 1), 0)), in, params, len(l), api.ErrShape)
			checkWrong(t, append(l, of(api.ONeg, len(l))), in, params, -1, api.ErrGraph)
		}
	}
}

// P15.1: what is given, and a parameter that is named, may not be, or is of another shape: at the first node that is of it, live or not.
func TestAllInput(t *testing.T) {
	for _, x := range append(sample.WrongTensors(), row(1), table(1, 1, 1), row(1, 2)) {
		for place := range api.MaxNodes - 1 {
			ahead := line(max(place, 1))[:place]
			for _, behind := range [][]api.Node{graphOf(of(api.OSqrt, place)), graphOf(number(3)), graphOf(input(), param(2), of(api.ONeg, place))} {
				l := append(slices.Clone(ahead), slices.Concat(graphOf(input()), behind)...)
				checkWrong(t, l[:min(len(l), 24)], x, args(cell(1), cell(2), cell(3)), place, api.ErrInput)
				l[place] = param(2)
				checkWrong(t, l[:min(len(l), 24)], cell(1), args(cell(1), cell(2), x), place, api.ErrInput)
				checkWrong(t, l[:min(len(l), 24)], cell(1), args(cell(1), cell(2)), place, api.ErrInput)
			}
		}
	}
}

// P15.1: of each shape, a last node of more than one number, whether slopes have an error or not, at its place.
func TestAllLoss(t *testing.T) {
	for _, s := range append(sample.Shapes(1, 2, 3, 4, 16), []int{}) {
		x := filled(s, 0)
		if len(x.Data) == 1 {
			checkAll(t, graphOf(param(3, s...)), x, args(x, x, x, x), slopes{3: filled(s, one)}.listed(), 0, -1, api.OK)
			checkWrong(t, graphOf(param(3, s...), of(api.OSqrt, 0)), x, args(x, x, x, x), 1, api.ErrZero)
			continue
		}
		for place := range api.MaxNodes {
			l := append(line(max(place, 1))[:place], param(3, s...))
			checkWrong(t, l, x, args(x, x, x, x), place, api.ErrLoss)
			l[place] = input(s...)
			checkWrong(t, l, x, args(x, x, x, x), place, api.ErrLoss)
			if place < 23 {
				checkWrong(t, append(l, of(api.OSqrt, place)), x, nil, place+1, api.ErrLoss)
				checkAll(t, append(l, number(7)), x, nil, slopes{}.listed(), 7, -1, api.OK)
			}
		}
	}
}

// P15.1: nodes that can't be turned back, at each two places of the longest graph: the last one is told, if it is live.
func TestAllBack(t *testing.T) {
	for a := 3; a < api.MaxNodes; a++ {
		for b := 3; b < api.MaxNodes; b++ {
			for _, kinds := range [][]int{{0, 0}, {0, 1}, {1, 0}, {1, 1}} {
				c, errs := sample.Chain(map[int]int{a: kinds[0], b: kinds[1]}, -1)
				checkWrong(t, c.L, c.In, c.Params, max(a, b), errs[max(a, b)])
				if max(a, b) == api.MaxNodes-1 {
					continue
				}
				c, errs = sample.Chain(map[int]int{a: kinds[0], b: kinds[1]}, max(a, b))
				if a == b {
					checkAll(t, c.L, c.In, c.Params, slopes{1: cell(one)}.listed(), 0, -1, api.OK)
				} else {
					checkWrong(t, c.L, c.In, c.Params, min(a, b), errs[min(a, b)])
				}
			}
		}
	}
}

// P15.1: a live node is turned back, though 0 hangs on it.
func TestAllBackZero(t *testing.T) {
	for _, f := range sample.Turnings(0) {
		l := graphOf(param(0), number(1), f.N, number(0), of(api.OMul, 2, 3), of(api.OSub, 4, 4))
		if f.Err == api.ErrZero {
			checkWrong(t, l, api.Tensor{}, args(cell(0)), 2, f.Err)
		} else {
			checkAll(t, l, api.Tensor{}, args(cell(0)), slopes{0: cell(0)}.listed(), 0, -1, api.OK)
		}
		l = append(l, number(9))
		checkAll(t, l, api.Tensor{}, args(cell(0)), slopes{0: cell(0)}.listed(), 9, -1, api.OK)
	}
}

// P15.1: the examples of the whole that are about slopes.
func TestAllExamples(t *testing.T) {
	checkWrong(t, graphOf(param(0), of(api.OSqrt, 0), of(api.ONeg, 1)), api.Tensor{}, args(cell(0)), 1, api.ErrZero)
	checkWrong(t, graphOf(number(1), param(0), param(1), of(api.OMul, 1, 2), of(api.OSub, 3, 3)), api.Tensor{}, args(cell(1<<40), cell(1<<60)), 3, api.ErrOver)
	checkAll(t, graphOf(param(0), param(1), of(api.OMul, 0, 1)), api.Tensor{}, args(cell(-1), cell(1)), slopes{0: cell(1), 1: cell(-1)}.listed(), -1, -1, api.OK)
	checkWrong(t, graphOf(param(0, 2), of(api.ONeg, 0)), api.Tensor{}, args(row(1, 2)), 1, api.ErrLoss)
}

// told is which error a graph had, and whether that was on the way back.
type told struct {
	err  api.Errno
	back bool
}

// checkWords holds what All answers against what the chapter's words make of it, and tells what that is.
func checkWords(t *testing.T, c sample.Job) told {
	t.Helper()
	_, _, forth := eval.All(c.L, c.In, c.Params)
	want, loss, node, err := words.Slopes(c)
	checkAll(t, c.L, c.In, c.Params, want, loss, node, err)
	return told{err, forth == api.OK}
}

// checkTold holds that each of some was told.
func checkTold(t *testing.T, times map[told]int, all ...told) {
	t.Helper()
	for _, want := range all {
		if times[want] == 0 {
			t.Errorf("answers are %v, none of them %v", times, want)
		}
	}
}

// P15.1: all graphs of up to three nodes, of numbers alone, behind what is given and a parameter.
func TestAllGrown(t *testing.T) {
	times := map[told]int{}
	for _, c := range words.GrownNumbers(3) {
		times[checkWords(t, c)]++
	}
	checkTold(t, times, told{api.OK, true}, told{api.ErrOver, false}, told{api.ErrOver, true}, told{api.ErrZero, false}, told{api.ErrZero, true}, told{api.ErrNeg, false})
}

// P15.1, P15.2: all graphs of two nodes of thirteen kinds behind what is given and a parameter that are tables; as they are, and with their numbers taken together.
func TestAllTables(t *testing.T) {
	times := map[told]int{}
	for _, c := range words.GrownTables() {
		times[checkWords(t, c)]++
	}
	checkTold(t, times, told{api.OK, true}, told{api.ErrOver, false}, told{api.ErrOver, true}, told{api.ErrZero, false}, told{api.ErrZero, true}, told{api.ErrNeg, false}, told{api.ErrShape, false}, told{api.ErrLoss, true})
}

// lossOf is what the last node of a graph comes to.
func lossOf(t *testing.T, c sample.Job) int {
	t.Helper()
	all, _, err := eval.All(c.L, c.In, c.Params)
	if err != api.OK || len(all[len(all)-1].Data) != 1 {
		t.Fatalf("%v: %v, %d", c.L, all, err)
	}
	return all[len(all)-1].Data[0]
}

// moved is a job whose parameter p has a number that is so much more.
func moved(c sample.Job, p, place, more int) sample.Job {
	c.Params = slices.Clone(c.Params)
	c.Params[p].Data = slices.Clone(c.Params[p].Data)
	c.Params[p].Data[place] += more
	return c
}

// W3: slopes are how steeply the loss rises with each number, exactly, where that is even, or as even as a square's: from as much less to as much more.
func TestAllSlopes(t *testing.T) {
	for _, c := range sample.Even() {
		got, loss, node, err := grad.All(c.L, c.In, c.Params)
		if len(got) != 8 || loss != lossOf(t, c) || node != -1 || err != api.OK {
			t.Errorf("%v: %v, %d, %d, %d", c.L, got, loss, node, err)
			continue
		}
		for _, p := range graph.Params(c.L) {
			if !slices.Equal(got[p].Shape, c.Params[p].Shape) {
				t.Errorf("%v: slopes of %d are %v", c.L, p, got[p])
			}
			for place, slope := range got[p].Data {
				if want := 2 * (lossOf(t, moved(c, p, place, one/4)) - lossOf(t, moved(c, p, place, -one/4))); slope != want {
					t.Errorf("%v: slope of %d, at %d, is %d; want %d", c.L, p, place, slope, want)
				}
			}
		}
	}
}

// P15.2: nodes that are not live, at each place, do not matter to slopes, whomever they are reckoned of, but that their parameters are named; nor do ones that can't be turned back.
func TestAllUnlive(t *testing.T) {
	for _, c := range sample.Even() {
		want, loss, _, _ := grad.All(c.L, c.In, c.Params)
		params := append(slices.Clone(c.Params), make([]api.Tensor, 8-len(c.Params))...)
		params[6] = row(least, 0, most)
		named := slices.Clone(want)
		named[6] = row(0, 0, 0)
		for place := range c.L {
			for _, n := range sample.Unlive(c.L, place) {
				l := sample.Inserted(c.L, place, n)
				if _, _, err := infer.Shapes(l); err != api.OK {
					continue
				}
				wanted := want
				if n.Op == api.OParam && n.Nums[0] == 6 {
					wanted = named
				}
				checkAll(t, l, c.In, params, wanted, loss, -1, api.OK)
				// used by another one that is not live either, it is not live
				checkAll(t, sample.Inserted(l, place+1, of(api.OTurn, place)), c.In, params, wanted, loss, -1, api.OK)
			}
			l := sample.Inserted(sample.Inserted(sample.Inserted(c.L, place, number(0)), place+1, number(1)), place+2, of(api.ODiv, place, place+1))
			checkAll(t, l, c.In, params, want, loss, -1, api.OK)
			checkAll(t, sample.Inserted(l, place+3, of(api.OSqrt, place)), c.In, params, want, loss, -1, api.OK)
			// what can't be reckoned is told, live or not
			checkWrong(t, sample.Inserted(l, place+3, of(api.ODiv, place+1, place)), c.In, params, place+3, api.ErrZero)
			checkWrong(t, sample.Inserted(l, place+3, param(6)), c.In, params, place+3, api.ErrInput)
		}
	}
}

// P15.2: slopes have the parameter's shape, whether it is live or not.
func TestAllShapes(t *testing.T) {
	for _, s := range append(sample.Shapes(1, 2, 3, 4, 16), []int{}) {
		for p := range api.MaxParams {
			x := counted(s, least)
			params := append(make([]api.Tensor, p), x)
			checkAll(t, graphOf(param(p, s...), number(3)), cell(1), params, slopes{p: filled(s, 0)}.listed(), 3, -1, api.OK)
			l := words.Closed(graphOf(param(p, s...)))
			if len(x.Data) > 1 {
				params[p] = filled(s, 1)
			}
			checkAll(t, l, cell(1), params, slopes{p: filled(s, one)}.listed(), sumOf(params[p].Data), -1, api.OK)
		}
	}
}

// sumOf is what numbers come to.
func sumOf(l []int) int {
	total := 0
	for _, n := range l {
		total += n
	}
	return total
}

// P15.1: parameters that a graph does not name do not matter, whatever they are, and how many; nor what is given, if it is given nothing.
func TestAllUnnamed(t *testing.T) {
	c := sample.Even()[1]
	want, loss, _, _ := grad.All(c.L, c.In, c.Params)
	for _, other := range append(sample.WrongTensors(), cell(7), row(1, 2)) {
		for count := 3; count < 20; count++ {
			others := slices.Repeat(args(other), count)
			others[0], others[2] = c.Params[0], c.Params[2]
			checkAll(t, c.L, other, others, want, loss, -1, api.OK)
		}
		checkAll(t, graphOf(number(3), of(api.ONeg, 0)), other, args(other), slopes{}.listed(), -3, -1, api.OK)
		checkAll(t, graphOf(param(1), of(api.OMul, 0, 0)), other, append(args(other, cell(one)), make([]api.Tensor, 1000)...), slopes{1: cell(2 * one)}.listed(), one, -1, api.OK)
	}
}

// R4: what is handed in is left as it was, its spare room too, and shares nothing with slopes, nor do these with each other; R5: again they are what they were.
func TestAllMemory(t *testing.T) {
	alone := sample.Job{L: graphOf(param(0, 1)), Params: args(row(5))}
	apart := sample.Job{L: graphOf(param(0, 1), param(1, 1), param(2, 2, 3), param(0, 1), of(api.OAdd, 0, 1)), Params: args(row(5), row(6), counted([]int{2, 3}, 0))}
	same := sample.Job{L: graphOf(param(0, 1), param(1, 1), with(of(api.OReshape, 0), 1), of(api.OTurn, 1), of(api.OSub, 2, 3)), Params: args(row(5), row(6), cell(0))}
	for _, c := range append(sample.Even(), alone, apart, same) {
		roomy, handed := sample.RoomyJob(c)
		// with their spare room
		told := func() string {
			return fmt.Sprint(roomy.L[:cap(roomy.L)], roomy.In, roomy.Params[:cap(roomy.Params)], handed)
		}
		before := told()
		want, loss, _, _ := grad.All(c.L, c.In, c.Params)
		for range 10 {
			got, again, node, err := grad.All(roomy.L, roomy.In, roomy.Params)
			if again != loss || node != -1 || err != api.OK {
				t.Errorf("%v: %d, %d, %d", c.L, again, node, err)
			}
			sample.ListsApart(t, sample.ListsOf(got), sample.ListsOf(want))
			clear(got[:cap(got)])
			if after := told(); after != before {
				t.Errorf("what was handed in is now %s, not %s", after, before)
			}
		}
	}
}
