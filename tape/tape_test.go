package tape_test

import (
	"fmt"
	"slices"
	"testing"

	"fuller/api"
	"fuller/eval"
	"fuller/grad"
	"fuller/graph"
	"fuller/infer"
	"fuller/sample"
	"fuller/tape"
	"fuller/words"
)

const (
	one   = api.One
	least = sample.Least
	most  = sample.Most
)

var (
	of, with, input, param, number, graphOf, line = sample.Node, sample.With, sample.Input, sample.Param, sample.Number, sample.Graph, sample.Line
	filled, counted, row, cell, table             = sample.Filled, sample.Counted, sample.Row, sample.Cell, sample.Table
	args                                          = sample.Tensors
)

// job is a graph, and what it is reckoned of.
type job = sample.Job

// sameNode tells whether a and b are one node.
func sameNode(a, b api.Node) bool {
	return a.Op == b.Op && slices.Equal(a.Args, b.Args) && slices.Equal(a.Nums, b.Nums)
}

// sameTensors tells whether a and b are the same tensors.
func sameTensors(a, b []api.Tensor) bool {
	return slices.EqualFunc(a, b, sample.Same)
}

// sameTape tells whether a and b are one tape, whether a list is nil or empty.
func sameTape(a, b api.Tape) bool {
	return slices.EqualFunc(a.Graph, b.Graph, sameNode) && sample.Same(a.Input, b.Input) && sameTensors(a.Params, b.Params) && a.Phase == b.Phase && a.At == b.At &&
		sameTensors(a.Vals, b.Vals) && sameTensors(a.Hang, b.Hang) && sameTensors(a.Grads, b.Grads) && a.Err == b.Err
}

// short is what a tape is told by in a fault.
func short(x api.Tape) string {
	return fmt.Sprintf("phase %d, at %d, error %d, %d nodes, %d parameters, vals %v, hang %v, grads %v", x.Phase, x.At, x.Err, len(x.Graph), len(x.Params), x.Vals[:min(len(x.Vals), 24)], x.Hang[:min(len(x.Hang), 24)], x.Grads[:min(len(x.Grads), 9)])
}

// check holds a tape against what it is to be.
func check(t *testing.T, call string, got, want api.Tape) {
	t.Helper()
	if !sameTape(got, want) {
		t.Errorf("%s, of %d nodes, %v: %s; want %s", call, len(want.Graph), want.Graph[:min(len(want.Graph), 24)], short(got), short(want))
	}
}

// begun is a tape of a job ahead of its first step, as it is to be.
func begun(c job) api.Tape {
	return api.Tape{Graph: c.L, Input: c.In, Params: c.Params, Phase: api.TForward}
}

// failed is a tape of a job that failed at a node, as it is to be.
func failed(c job, node int, err api.Errno) api.Tape {
	return api.Tape{Graph: c.L, Input: c.In, Params: c.Params, Phase: api.TFailed, At: node, Err: err}
}

// forward are the tapes of the way forth, as they are to be, and whether there is a way back from the last one.
func forward(c job) ([]api.Tape, bool) {
	if _, node, err := infer.Shapes(c.L); err != api.OK {
		return []api.Tape{failed(c, node, err)}, false
	}
	x := begun(c)
	all := []api.Tape{x}
	for node := range c.L {
		vals, _, err := eval.All(c.L[:node+1], c.In, c.Params)
		if err != api.OK {
			return append(all, failed(c, node, err)), false
		}
		x.At, x.Vals = node+1, vals
		all = append(all, x)
	}
	last := len(c.L) - 1
	if len(x.Vals[last].Data) != 1 {
		all[len(c.L)] = failed(c, last, api.ErrLoss)
		return all, false
	}
	return all, true
}

// backward is a tape of the way back, as it is to be, when all nodes from a place on were turned back.
func backward(r words.Reckoned, x api.Tape, from int) api.Tape {
	x.Phase, x.At = api.TBackward, -1
	x.Hang, x.Grads = make([]api.Tensor, len(r.L)), make([]api.Tensor, api.MaxParams)
	for _, node := range graph.Live(r.L) {
		x.Hang[node], _ = r.Hang(node, from)
		if node < from {
			x.At = node
		}
	}
	for p := range x.Grads {
		x.Grads[p], _ = r.Slopes(p, from)
	}
	return x
}

// steps are what a tape of a job is to be, ahead of its first step, and behind each one up to the last that there is.
func steps(c job) []api.Tape {
	all, back := forward(c)
	if !back {
		return all
	}
	x := all[len(c.L)]
	r := words.Reckoned{L: c.L, Vals: x.Vals}
	all[len(c.L)] = backward(r, x, len(c.L))
	for _, node := range r.Down(0) {
		if err := r.Fails(node); err != api.OK {
			return append(all, failed(c, node, err))
		}
		all = append(all, backward(r, x, node))
	}
	last := &all[len(all)-1]
	last.Phase = api.TDone
	last.Grads, _, _, _ = words.Slopes(c)
	return all
}

// ended is how a tape ended, and how far it came.
type ended struct {
	phase int
	err   api.Errno
	back  bool
}

// checkSteps holds a job's tape against what it is to be, step by step, and all at once, and tells how it ended.
func checkSteps(t *testing.T, c job) ended {
	t.Helper()
	all := steps(c)
	x := tape.Begin(c.L, c.In, c.Params)
	check(t, "begun", x, all[0])
	vals, _, _ := eval.All(c.L, c.In, c.Params)
	for at, want := range all[1:] {
		x = tape.Step(x)
		check(t, fmt.Sprintf("step %d", at+1), x, want)
		if vals != nil && !sameTensors(x.Vals, vals[:len(x.Vals)]) {
			t.Errorf("step %d: vals are %v; want the first ones of %v", at+1, x.Vals, vals)
		}
	}
	for range 2 {
		check(t, "step behind the last one", tape.Step(x), x)
	}
	check(t, "run", tape.Run(tape.Begin(c.L, c.In, c.Params), len(all)-1), x)
	checkGrad(t, c, x, len(all)-1)
	return ended{x.Phase, x.Err, len(all)-1 > len(c.L)}
}

// checkGrad holds a tape that came to its end against what grad tells, and against how many steps it is to have.
func checkGrad(t *testing.T, c job, x api.Tape, count int) {
	t.Helper()
	grads, loss, node, err := grad.All(c.L, c.In, c.Params)
	if x.At != node || x.Err != err || !sameTensors(x.Grads, grads) || (x.Phase == api.TDone) != (err == api.OK) || (x.Phase == api.TFailed) != (err != api.OK) {
		t.Errorf("%v: %s; want %v, %d, %d", c.L, short(x), grads, node, err)
	}
	if err != api.OK {
		return
	}
	if want := len(c.L) + len(graph.Live(c.L)); count != want || len(x.Vals) != len(c.L) || x.Vals[len(c.L)-1].Data[0] != loss {
		t.Errorf("%v: %d steps, %s; want %d, and the loss %d", c.L, count, short(x), want, loss)
	}
}

// checkRuns holds runs of so many steps, and of two parts, against what they are to come to.
func checkRuns(t *testing.T, c job) {
	t.Helper()
	all := steps(c)
	last := len(all) - 1
	start := tape.Begin(c.L, c.In, c.Params)
	for first := range last + 3 {
		x := tape.Run(start, first)
		check(t, fmt.Sprintf("run of %d", first), x, all[min(first, last)])
		for _, none := range []int{least, least + 1, -one, -24, -2, -1, 0} {
			check(t, fmt.Sprintf("run of %d, and of %d", first, none), tape.Run(x, none), all[min(first, last)])
		}
		for second := range last + 3 {
			check(t, fmt.Sprintf("run of %d, and of %d", first, second), tape.Run(x, second), all[min(first+second, last)])
		}
		for _, much := range []int{48, 49, 100, 1 << 32, most - 1, most} {
			check(t, fmt.Sprintf("run of %d, and of %d", first, much), tape.Run(x, much), all[last])
		}
	}
}

// checkFails holds that a job's tape goes so many steps, and fails at the next one, at a node.
func checkFails(t *testing.T, c job, count, node int, err api.Errno) {
	t.Helper()
	start := tape.Begin(c.L, c.In, c.Params)
	check(t, "begun", start, begun(c))
	ahead := tape.Run(start, count)
	if (ahead.Phase != api.TForward && ahead.Phase != api.TBackward) || ahead.Err != api.OK {
		t.Errorf("%v, %d steps: %s", c.L, count, short(ahead))
	}
	want := failed(c, node, err)
	for _, x := range []api.Tape{tape.Step(ahead), tape.Run(ahead, 2), tape.Run(start, count+1), tape.Run(start, most), tape.Step(tape.Step(ahead))} {
		check(t, fmt.Sprintf("behind %d steps", count), x, want)
	}
}

// checkBegun holds that a job's tape has failed as it begins, and stays so.
func checkBegun(t *testing.T, c job, node int, err api.Errno) {
	t.Helper()
	want := failed(c, node, err)
	x := tape.Begin(c.L, c.In, c.Params)
	check(t, "begun", x, want)
	if len(c.L) > 1000 {
		return
	}
	check(t, "step", tape.Step(x), want)
	check(t, "run", tape.Run(x, most), want)
}

// P16.1: a tape of these, whatever is given, and whatever the parameters are, whether they fit or not.
func TestBegin(t *testing.T) {
	for _, c := range sample.Even() {
		check(t, "begun", tape.Begin(c.L, c.In, c.Params), begun(c))
		for _, x := range append(sample.WrongTensors(), cell(3), row(1, 2)) {
			for _, params := range [][]api.Tensor{nil, {}, {x}, {{}, x, cell(5)}, slices.Repeat(args(x), 8), slices.Repeat(args(row(1, 2)), 100)} {
				wrong := job{L: c.L, In: x, Params: params}
				check(t, "begun", tape.Begin(c.L, x, params), begun(wrong))
			}
		}
	}
	for _, l := range [][]api.Node{graphOf(number(5)), graphOf(input(2, 3)), graphOf(param(7, 4)), line(24)} {
		check(t, "begun", tape.Begin(l, api.Tensor{}, nil), begun(job{L: l}))
	}
}

// P16.1: what may not be a graph, whatever is given.
func TestBeginGraph(t *testing.T) {
	in, params := sample.Outside()
	for _, l := range sample.WrongGraphs() {
		checkBegun(t, job{L: l, In: in, Params: params}, -1, api.ErrGraph)
		checkBegun(t, job{L: l}, -1, api.ErrGraph)
	}
	// Nodes ahead that do not fit, or have an error, do not matter.
	for _, ahead := range [][]api.Node{graphOf(number(1), with(of(api.OSum, 0), 0)), graphOf(input(9)), graphOf(number(-1), of(api.OSqrt, 0))} {
		checkBegun(t, job{L: append(ahead, of(api.ONeg, 99)), In: in, Params: params}, -1, api.ErrGraph)
		checkBegun(t, job{L: append(ahead, of(0)), In: in, Params: params}, -1, api.ErrGraph)
	}
}

// misfits are nodes that do not fit behind what is given, of the shape 2, 3, a parameter of the shape 2, and a number.
func misfits() []api.Node {
	return graphOf(
		of(api.OAdd, 0, 1), of(api.OSub, 1, 0), of(api.OMul, 0, 1), of(api.ODiv, 0, 1), of(api.OMatmul, 0, 0), of(api.OMatmul, 1, 1), with(of(api.OReshape, 0), 5), with(of(api.OReshape, 2), 2),
		with(of(api.OSlice, 0), 0, 0, 3), with(of(api.OSlice, 0), 2, 0, 1), with(of(api.OSlice, 1), 0, 1, 1), with(of(api.OJoin, 0, 1), 0), with(of(api.OJoin, 2, 2), 0),
		with(of(api.OSum, 2), 0), with(of(api.OMean, 0), 2), with(of(api.OMax, 1), -1),
	)
}

// P16.1: a node that does not fit, at each place of the longest graph, whether the last node hangs on it or not: the first one is told, ahead of what can't be reckoned, whatever is given.
func TestBeginShape(t *testing.T) {
	for _, n := range misfits() {
		for place := 3; place < api.MaxNodes; place++ {
			// A number below 0 stands ahead of all that has no root.
			l := graphOf(input(2, 3), param(1, 2), number(-1))
			for len(l) < place {
				l = append(l, of(api.OSqrt, 2))
			}
			l = append(l, n)
			for _, behind := range [][]api.Node{nil, graphOf(number(4)), graphOf(of(api.OTurn, place)), graphOf(n, n)} {
				if len(l)+len(behind) > api.MaxNodes {
					continue
				}
				c := job{L: append(slices.Clone(l), behind...), In: table(2, 3, 1, 2, 3, 4, 5, 6), Params: args(row(7), row(8, 9))}
				checkBegun(t, c, place, api.ErrShape)
				checkBegun(t, job{L: c.L}, place, api.ErrShape)
			}
		}
	}
}

// grads are as many as there are parameters, all empty but for some.
func grads(some map[int]api.Tensor) []api.Tensor {
	all := make([]api.Tensor, 8)
	for p, x := range some {
		all[p] = x
	}
	return all
}

// written is a job, and its tape's parts behind each step.
type written struct {
	c    job
	want []api.Tape
}

// square is a parameter times itself.
func square() written {
	three, six, none := cell(3*one), cell(6*one), api.Tensor{}
	vals := args(three, cell(9*one))
	return written{
		job{L: graphOf(param(0), of(api.OMul, 0, 0)), Params: args(three)},
		[]api.Tape{
			{Phase: api.TForward, At: 0},
			{Phase: api.TForward, At: 1, Vals: args(three)},
			{Phase: api.TBackward, At: 1, Vals: vals, Hang: args(none, cell(one)), Grads: grads(nil)},
			{Phase: api.TBackward, At: 0, Vals: vals, Hang: args(six, cell(one)), Grads: grads(nil)},
			{Phase: api.TDone, At: -1, Vals: vals, Hang: args(six, cell(one)), Grads: grads(map[int]api.Tensor{0: six})},
		},
	}
}

// mixed has a parameter that two live nodes name, one that no live one does, what is given, and nodes that are not live, at either end; its last node has two sides.
func mixed() written {
	w, x, none := row(2*one, 5*one), row(3*one, -one), api.Tensor{}
	l := graphOf(
		param(2, 2), param(4, 3), param(6, 2), input(2), of(api.ONeg, 0), param(2, 2), of(api.OMul, 5, 3), of(api.OSub, 6, 2),
		of(api.OMul, 7, 4), with(of(api.OSum, 8), 0), with(of(api.OReshape, 9), 1, 1),
	)
	c := job{L: l, In: x, Params: args(none, none, w, none, row(7, 8, 9), none, row(one, 0))}
	vals := args(w, row(7, 8, 9), row(one, 0), x, row(-2*one, -5*one), w, row(6*one, -5*one), row(5*one, -5*one), row(-10*one, 25*one), cell(15*one), table(1, 1, 15*one))
	steps := []api.Tape{{Phase: api.TForward}}
	for node := 1; node < len(l); node++ {
		steps = append(steps, api.Tape{Phase: api.TForward, At: node, Vals: vals[:node]})
	}
	hang, slopes := make([]api.Tensor, len(l)), map[int]api.Tensor{}
	turned := func(phase, at int) {
		steps = append(steps, api.Tape{Phase: phase, At: at, Vals: vals, Hang: slices.Clone(hang), Grads: grads(slopes)})
	}
	hang[10] = table(1, 1, one)
	turned(api.TBackward, 10)
	hang[9] = cell(one)
	turned(api.TBackward, 9)
	hang[8] = row(one, one)
	turned(api.TBackward, 8)
	hang[7], hang[4] = row(-2*one, -5*one), row(5*one, -5*one)
	turned(api.TBackward, 7)
	hang[6], hang[2] = row(-2*one, -5*one), row(2*one, 5*one)
	turned(api.TBackward, 6)
	hang[5], hang[3] = row(-6*one, 5*one), row(-4*one, -25*one)
	turned(api.TBackward, 5)
	slopes[2] = row(-6*one, 5*one)
	turned(api.TBackward, 4)
	hang[0] = row(-5*one, 5*one)
	turned(api.TBackward, 3)
	turned(api.TBackward, 2)
	slopes[6] = row(2*one, 5*one)
	turned(api.TBackward, 0)
	slopes[2], slopes[4] = row(-11*one, 10*one), row(0, 0, 0)
	turned(api.TDone, -1)
	return written{c, steps}
}

// alone has one node.
func alone(n api.Node, c job, val, slopes api.Tensor) written {
	c.L = graphOf(n)
	hang, all, end := args(filled(val.Shape, one)), grads(nil), grads(nil)
	if n.Op == api.OParam {
		end[n.Nums[0]] = slopes
	}
	return written{c, []api.Tape{
		{Phase: api.TForward},
		{Phase: api.TBackward, Vals: args(val), Hang: hang, Grads: all},
		{Phase: api.TDone, At: -1, Vals: args(val), Hang: hang, Grads: end},
	}}
}

// idle has a last node that hangs on none of those ahead.
func idle() written {
	none, w := api.Tensor{}, table(1, 2, 3, 4)
	l := graphOf(param(7, 1, 2), of(api.ONeg, 0), input(), param(7, 1, 2), number(9))
	vals := args(w, table(1, 2, -3, -4), cell(5), w, cell(9))
	hang := args(none, none, none, none, cell(one))
	c := job{L: l, In: cell(5), Params: append(make([]api.Tensor, 7), w)}
	return written{c, []api.Tape{
		{Phase: api.TForward}, {Phase: api.TForward, At: 1, Vals: vals[:1]}, {Phase: api.TForward, At: 2, Vals: vals[:2]}, {Phase: api.TForward, At: 3, Vals: vals[:3]}, {Phase: api.TForward, At: 4, Vals: vals[:4]},
		{Phase: api.TBackward, At: 4, Vals: vals, Hang: hang, Grads: grads(nil)},
		{Phase: api.TDone, At: -1, Vals: vals, Hang: hang, Grads: grads(map[int]api.Tensor{7: filled([]int{1, 2}, 0)})},
	}}
}

// allWritten are some jobs, with their tapes behind each step.
func allWritten() []written {
	cube := filled([]int{1, 1, 1}, least)
	return []written{
		square(), mixed(), idle(), alone(number(most), job{}, cell(most), api.Tensor{}), alone(input(1), job{In: row(-5)}, row(-5), api.Tensor{}),
		alone(param(0), job{Params: args(cell(0))}, cell(0), cell(one)), alone(param(7, 1, 1, 1), job{Params: append(make([]api.Tensor, 7), cube, cell(3))}, cube, filled([]int{1, 1, 1}, one)),
	}
}

// P16.1 to P16.4: each part of a tape, behind each step.
func TestStep(t *testing.T) {
	for _, w := range allWritten() {
		x := tape.Begin(w.c.L, w.c.In, w.c.Params)
		for at, want := range w.want {
			want.Graph, want.Input, want.Params = w.c.L, w.c.In, w.c.Params
			if at > 0 {
				x = tape.Step(x)
			}
			check(t, fmt.Sprintf("step %d", at), x, want)
			check(t, fmt.Sprintf("run of %d", at), tape.Run(tape.Begin(w.c.L, w.c.In, w.c.Params), at), want)
		}
		for range 3 {
			behind := tape.Step(x)
			check(t, "step of what is done", behind, x)
			x = behind
		}
		checkSteps(t, w.c)
		checkRuns(t, w.c)
	}
}

// P16.2: a node that can't be reckoned, at each place of a graph, whether the last node hangs on it or not: as many steps ahead as nodes.
func TestStepReckoned(t *testing.T) {
	first, in, params := sample.Ahead()
	for _, f := range sample.Failures() {
		for place := len(first); place < api.MaxNodes; place++ {
			// Roots of 0 can't be turned back, but are never asked to be.
			l := append(slices.Clone(first), slices.Repeat(graphOf(of(api.OSqrt, 1)), place-len(first))...)
			l = append(l, f.N)
			checkFails(t, job{L: l, In: in, Params: params}, place, place, f.Err)
			if place == api.MaxNodes-1 {
				continue
			}
			for len(l) < api.MaxNodes-1 {
				l = append(l, of(api.OTurn, place))
			}
			// the last one hangs on it, or on none, or has two numbers, or fails too
			for _, last := range graphOf(of(api.OTurn, place), number(4), input(2), of(api.OSqrt, 2)) {
				checkFails(t, job{L: append(l, last), In: in, Params: params}, place, place, f.Err)
			}
		}
	}
}

// P16.2: what is given, and a parameter that is named, may not be, or is of another shape, or is not there: at the first node that is of it, live or not.
func TestStepInput(t *testing.T) {
	for _, x := range append(sample.WrongTensors(), row(1), table(1, 1, 1), row(1, 2)) {
		for place := range api.MaxNodes - 1 {
			ahead := line(max(place, 1))[:place]
			for _, behind := range [][]api.Node{graphOf(of(api.OSqrt, place)), graphOf(number(3)), graphOf(input(), param(2), of(api.ONeg, place))} {
				l := slices.Concat(ahead, graphOf(input()), behind)
				l = l[:min(len(l), 24)]
				checkFails(t, job{L: l, In: x, Params: args(cell(1), cell(2), cell(3))}, place, place, api.ErrInput)
				l = slices.Clone(l)
				l[place] = param(2)
				checkFails(t, job{L: l, In: cell(1), Params: args(cell(1), cell(2), x)}, place, place, api.ErrInput)
				checkFails(t, job{L: l, In: cell(1), Params: args(cell(1), cell(2))}, place, place, api.ErrInput)
			}
		}
	}
}

// P16.2: of each shape, a last node of more than one number fails at its place, though it was reckoned; one of one number does not, and has One of its shape hang on it.
func TestStepLoss(t *testing.T) {
	for _, s := range append(sample.Shapes(1, 2, 3, 4, 16), []int{}) {
		x := filled(s, 0)
		params := args(x, x, x, x)
		for place := range api.MaxNodes {
			l := append(line(max(place, 1))[:place], param(3, s...))
			c := job{L: l, In: x, Params: params}
			if len(x.Data) > 1 {
				checkFails(t, c, place, place, api.ErrLoss)
				l[place] = input(s...)
				checkFails(t, c, place, place, api.ErrLoss)
				continue
			}
			behind := tape.Run(tape.Begin(c.L, c.In, c.Params), place+1)
			if behind.Phase != api.TBackward || behind.At != place || !sample.Same(behind.Hang[place], filled(s, one)) || len(behind.Hang) != place+1 {
				t.Errorf("%v: %s", c.L, short(behind))
			}
			checkSteps(t, c)
		}
		c := job{L: graphOf(param(3, s...), number(7)), In: x, Params: params}
		checkSteps(t, c)
	}
}

// P16.3: nodes that can't be turned back, at each two places of the longest graph: the last one, if it is live, as many steps behind the way forth as live nodes stand behind it.
func TestStepBack(t *testing.T) {
	const nodes = api.MaxNodes
	for a := 3; a < nodes; a++ {
		for b := 3; b <= a; b++ {
			for _, kinds := range [][2]int{{0, 0}, {0, 1}, {1, 0}, {1, 1}} {
				c, errs := sample.Chain(map[int]int{a: kinds[0], b: kinds[1]}, -1)
				checkFails(t, c, nodes+nodes-1-a, a, errs[a])
				if a == nodes-1 || a == b {
					continue
				}
				// Node a is not live: there is one less behind b.
				c, errs = sample.Chain(map[int]int{a: kinds[0], b: kinds[1]}, a)
				checkFails(t, c, nodes+nodes-1-b-1, b, errs[b])
			}
		}
	}
}

// P16.3: a live node is turned back, though 0 hangs on it; one that is not live is not.
func TestStepBackZero(t *testing.T) {
	for _, f := range sample.Turnings(0) {
		c := job{L: graphOf(param(0), number(1), f.N, number(0), of(api.OMul, 2, 3), of(api.OSub, 4, 4)), Params: args(cell(0))}
		if f.Err == api.ErrZero {
			// Node 3, a number, is turned back ahead of it.
			checkFails(t, c, 6+3, 2, f.Err)
		}
		checkSteps(t, c)
		c.L = append(c.L, number(9))
		if x := tape.Run(tape.Begin(c.L, c.In, c.Params), 8); x.Phase != api.TDone || !sameTensors(x.Grads, grads(map[int]api.Tensor{0: cell(0)})) {
			t.Errorf("%v: %s", c.L, short(x))
		}
		checkSteps(t, c)
	}
}

// P16.3: in which order what hangs on nodes, and slopes, are added, and where they are too great: numbers whose sums are too great in one order, and not in another one.
func TestStepSums(t *testing.T) {
	times := map[ended]int{}
	for _, by := range sample.Lists(3, sample.Ends()...)[1:] {
		times[checkSteps(t, sample.UsedBy(by))]++
		times[checkSteps(t, sample.NamedBy(by))]++
	}
	for _, by := range sample.Threes() {
		times[checkSteps(t, sample.NamedTwice(by))]++
		times[checkSteps(t, sample.JoinedTwice(by))]++
	}
	for _, ahead := range []int{most, most - 1, least, least + 1, 5, -5, 0, 1, -1} {
		for _, by := range []int{1, -1, most, -most, least, 1 << 62, -1 << 62} {
			times[checkSteps(t, sample.Both(api.OSub, ahead, by))]++
			times[checkSteps(t, sample.Both(api.OAdd, ahead, by))]++
		}
	}
	checkEnded(t, times, ended{api.TDone, api.OK, true}, ended{api.TFailed, api.ErrOver, true})
}

// checkEnded holds that each of some was told.
func checkEnded(t *testing.T, times map[ended]int, all ...ended) {
	t.Helper()
	for _, want := range all {
		if times[want] == 0 {
			t.Errorf("tapes ended as %v, none of them as %v", times, want)
		}
	}
}

// P16.3: a parameter's slopes are too great at its node, what hangs on an Arg at the node that is turned back.
func TestStepOver(t *testing.T) {
	// Nodes 0 and 1 name the parameter, 2 and 3 are numbers, 4 and 5 products.
	checkFails(t, sample.NamedBy([]int{1, most}), 7+6, 0, api.ErrOver)
	checkFails(t, sample.NamedBy([]int{-1, least}), 7+6, 0, api.ErrOver)
	// Node 0 is the parameter, 1 and 2 are numbers, 3 and 4 products.
	checkFails(t, sample.UsedBy([]int{1, most}), 6+2, 3, api.ErrOver)
	checkFails(t, sample.UsedBy([]int{-1, least}), 6+2, 3, api.ErrOver)
	// Both Args of node 3 are the parameter; behind it stand 4, 5 and 6.
	checkFails(t, sample.JoinedTwice([3]int{1, most, 0}), 8+4, 3, api.ErrOver)
	checkFails(t, sample.Both(api.OAdd, 1, most), 7+3, 3, api.ErrOver)
}

// P16.1 to P16.5: all graphs of up to two nodes, of numbers alone, behind what is given and a parameter, and each fifth one of three.
func TestStepGrown(t *testing.T) {
	times := map[ended]int{}
	for at, c := range words.GrownNumbers(3) {
		if len(c.L) < 5 || at%5 == 0 {
			times[checkSteps(t, c)]++
		}
	}
	checkEnded(t, times, ended{api.TDone, api.OK, true}, ended{api.TFailed, api.ErrOver, false}, ended{api.TFailed, api.ErrOver, true}, ended{api.TFailed, api.ErrZero, false}, ended{api.TFailed, api.ErrZero, true}, ended{api.TFailed, api.ErrNeg, false})
}

// P16.1 to P16.5: all graphs of up to two nodes of thirteen kinds behind what is given and a parameter that are tables; as they are, and with their numbers taken together.
func TestStepTables(t *testing.T) {
	times := map[ended]int{}
	for _, c := range words.GrownTables() {
		times[checkSteps(t, c)]++
	}
	checkEnded(t, times, ended{api.TDone, api.OK, true}, ended{api.TFailed, api.ErrOver, false}, ended{api.TFailed, api.ErrOver, true}, ended{api.TFailed, api.ErrZero, false}, ended{api.TFailed, api.ErrZero, true}, ended{api.TFailed, api.ErrNeg, false}, ended{api.TFailed, api.ErrShape, false}, ended{api.TFailed, api.ErrLoss, false})
}

// various are jobs that come to their end, or fail on the way forth, at its end, or on the way back.
func various() []job {
	all := sample.Even()
	for _, w := range allWritten() {
		all = append(all, w.c)
	}
	first, in, params := sample.Ahead()
	for _, f := range sample.Failures()[:2] {
		all = append(all, job{L: append(slices.Clone(first), f.N, number(4)), In: in, Params: params})
	}
	chain, _ := sample.Chain(map[int]int{9: 0, 4: 1}, -1)
	return append(all,
		chain, job{L: first, In: in, Params: params}, job{L: line(24)}, job{L: graphOf(number(0), of(api.OSqrt, 0))}, job{L: graphOf(number(0), with(of(api.OSum, 0), 0))}, job{}, job{L: graphOf(of(api.ONeg, 0))},
		sample.NamedBy([]int{1, most}), sample.UsedBy([]int{-1, least, 1}), sample.JoinedTwice([3]int{1, most, 0}),
	)
}

// P16.4, P16.5: runs of as many steps as there are, of less, of more, of none, and below; and two of them, one behind the other.
func TestRun(t *testing.T) {
	for _, c := range various() {
		checkSteps(t, c)
		checkRuns(t, c)
	}
}

// P16.5: however a run is split.
func TestRunParts(t *testing.T) {
	for _, c := range various() {
		all := steps(c)
		last := len(all) - 1
		if last < 1 || last > 11 {
			continue
		}
		for cuts := range 1 << (last - 1) {
			x, from := tape.Begin(c.L, c.In, c.Params), 0
			for at := 1; at <= last; at++ {
				if at < last && cuts>>(at-1)&1 == 0 {
					continue
				}
				x = tape.Run(x, at-from)
				check(t, fmt.Sprintf("cuts %b, at %d", cuts, at), x, all[at])
				from = at
			}
		}
	}
	for _, c := range various() {
		all := steps(c)
		for part := 1; part < 50; part++ {
			x := tape.Begin(c.L, c.In, c.Params)
			for at := part; at < len(all)+2*part; at += part {
				x = tape.Run(x, part)
				check(t, fmt.Sprintf("parts of %d, at %d", part, at), x, all[min(at, len(all)-1)])
			}
		}
	}
}

// P16.3, P16.5: nodes that are not live, at each place, are reckoned, and never turned back: they do not matter to slopes, but that their parameters are named.
func TestUnlive(t *testing.T) {
	for _, c := range sample.Even() {
		end := tape.Run(tape.Begin(c.L, c.In, c.Params), most)
		params := append(slices.Clone(c.Params), make([]api.Tensor, 8-len(c.Params))...)
		params[6] = row(least, 0, most)
		named := slices.Clone(end.Grads)
		named[6] = row(0, 0, 0)
		for place := range c.L {
			for _, n := range sample.Unlive(c.L, place) {
				longer := job{L: sample.Inserted(c.L, place, n), In: c.In, Params: params}
				if _, _, err := infer.Shapes(longer.L); err != api.OK {
					continue
				}
				want := end.Grads
				if n.Op == api.OParam && n.Nums[0] == 6 {
					want = named
				}
				x := tape.Run(tape.Begin(longer.L, longer.In, longer.Params), len(longer.L)+len(graph.Live(c.L)))
				if x.Phase != api.TDone || !sameTensors(x.Grads, want) || len(x.Hang[place].Data) != 0 {
					t.Errorf("%v: %s; want %v", longer.L, short(x), want)
				}
			}
			// a root of 0 can be reckoned, and can't be turned back
			longer := job{L: sample.Inserted(sample.Inserted(c.L, place, number(0)), place+1, of(api.OSqrt, place)), In: c.In, Params: params}
			if x := tape.Run(tape.Begin(longer.L, longer.In, longer.Params), most); x.Phase != api.TDone || !sameTensors(x.Grads, end.Grads) {
				t.Errorf("%v: %s; want %v", longer.L, short(x), end.Grads)
			}
		}
	}
}

// P16.1, P16.3: parameters that a graph does not name stay in the tape, and do not matter, whatever they are, and how many; nor does what is given, if it is given nothing.
func TestUnnamed(t *testing.T) {
	c := sample.Even()[1]
	want, _, _, _ := grad.All(c.L, c.In, c.Params)
	for _, other := range append(sample.WrongTensors(), cell(7), row(1, 2)) {
		for count := 3; count < 20; count++ {
			others := slices.Repeat(args(other), count)
			others[0], others[2] = c.Params[0], c.Params[2]
			x := tape.Run(tape.Begin(c.L, other, others), most)
			if x.Phase != api.TDone || !sameTensors(x.Grads, want) || !sameTensors(x.Params, others) || !sample.Same(x.Input, other) {
				t.Errorf("%v: %s; want %v", c.L, short(x), want)
			}
		}
		checkSteps(t, job{L: graphOf(number(3), of(api.ONeg, 0)), In: other, Params: args(other)})
	}
}

// P16.3: slopes of a parameter that nothing live names are 0 throughout, of its shape, whichever it is, only when the tape is done.
func TestNamedShapes(t *testing.T) {
	for _, s := range append(sample.Shapes(1, 2, 3, 4, 16), []int{}) {
		for p := range api.MaxParams {
			c := job{L: graphOf(param(p, s...), number(3)), In: cell(1), Params: append(make([]api.Tensor, p), counted(s, least))}
			before := tape.Run(tape.Begin(c.L, c.In, c.Params), 2)
			if before.Phase != api.TBackward || !sameTensors(before.Grads, grads(nil)) {
				t.Errorf("%v: %s", c.L, short(before))
			}
			after := tape.Step(before)
			if after.Phase != api.TDone || !sameTensors(after.Grads, grads(map[int]api.Tensor{p: filled(s, 0)})) {
				t.Errorf("%v: %s", c.L, short(after))
			}
		}
	}
}

// P16.1 to P16.4: the examples of the whole that are about tapes.
func TestExamples(t *testing.T) {
	three := job{L: graphOf(param(0), of(api.OMul, 0, 0)), Params: args(cell(3 * one))}
	if x := tape.Run(tape.Begin(three.L, three.In, three.Params), 4); x.Phase != api.TDone || x.Vals[1].Data[0] != 9*one || x.Grads[0].Data[0] != 6*one {
		t.Errorf("w times w: %s", short(x))
	}
	if x := tape.Run(tape.Begin(three.L, three.In, three.Params), 3); x.Phase != api.TBackward {
		t.Errorf("w times w, three steps: %s", short(x))
	}
	checkFails(t, job{L: graphOf(param(0), of(api.OSqrt, 0), of(api.ONeg, 1)), Params: args(cell(0))}, 4, 1, api.ErrZero)
	checkFails(t, job{L: graphOf(number(1), param(0), param(1), of(api.OMul, 1, 2), of(api.OSub, 3, 3)), Params: args(cell(1<<40), cell(1<<60))}, 3, 3, api.ErrOver)
	checkFails(t, job{L: graphOf(param(0, 2), of(api.ONeg, 0)), Params: args(row(1, 2))}, 1, 1, api.ErrLoss)
}
