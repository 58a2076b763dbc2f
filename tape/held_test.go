package tape_test

import (
	"fmt"
	"slices"
	"testing"

	"fuller/api"
	"fuller/sample"
	"fuller/tape"
)

// listsOf are all lists of numbers that a tape has.
func listsOf(x api.Tape) [][]int {
	var all [][]int
	for _, n := range x.Graph {
		all = append(all, n.Args, n.Nums)
	}
	return append(all, sample.ListsOf(slices.Concat(args(x.Input), x.Params, x.Vals, x.Hang, x.Grads))...)
}

// tensorsOf are all lists of tensors that a tape has, with their spare room.
func tensorsOf(x api.Tape) [][]api.Tensor {
	return [][]api.Tensor{x.Params[:cap(x.Params)], x.Vals[:cap(x.Vals)], x.Hang[:cap(x.Hang)], x.Grads[:cap(x.Grads)]}
}

// checkApart holds a tape against what it is to be, and that no two of its lists share any memory; and writes all of it over.
func checkApart(t *testing.T, call string, got, want api.Tape) {
	t.Helper()
	check(t, call, got, want)
	sample.ListsApart(t, listsOf(got), listsOf(want))
	for i, l := range tensorsOf(got) {
		for place := range l {
			l[place] = row(i, place)
		}
	}
	for i, l := range tensorsOf(got) {
		for place, x := range l {
			if !sample.Same(x, row(i, place)) {
				t.Errorf("%s: list %d of tensors has %v at %d", call, i, x, place)
			}
		}
	}
	clear(got.Graph[:cap(got.Graph)])
}

// roomy is a tape, all of whose lists have spare room, with something in it; and what tells whether any was changed.
func roomy(x api.Tape) (api.Tape, func() string) {
	c, handed := sample.RoomyJob(job{L: x.Graph, In: x.Input, Params: x.Params})
	x.Graph, x.Input, x.Params = c.L, c.In, c.Params
	for _, l := range []*[]api.Tensor{&x.Vals, &x.Hang, &x.Grads} {
		longer, more := sample.RoomyTensors(*l)
		*l, handed = longer, append(handed, more...)
	}
	return x, func() string {
		return fmt.Sprint(x.Graph[:cap(x.Graph)], x.Input, tensorsOf(x), x.Phase, x.At, x.Err, handed)
	}
}

// R4: what a tape begins with is left as it was, its spare room too, and shares nothing with it; R5: again it is what it was.
func TestBeginMemory(t *testing.T) {
	for _, c := range various() {
		want := steps(c)[0]
		x, told := roomy(begun(c))
		before := told()
		for range 3 {
			checkApart(t, "begun", tape.Begin(x.Graph, x.Input, x.Params), want)
			if after := told(); after != before {
				t.Errorf("what was handed in is now %s, not %s", after, before)
			}
		}
	}
}

// R4: a tape that is stepped is left as it was, its spare room too, and shares nothing with what it comes to, not even where that is the same one; R5: again it comes to what it came to.
func TestStepMemory(t *testing.T) {
	for _, c := range various() {
		all := steps(c)
		last := len(all) - 1
		for at := range all {
			x, told := roomy(all[at])
			before := told()
			for range 2 {
				checkApart(t, "step", tape.Step(x), all[min(at+1, last)])
				for _, n := range []int{-1, 0, 1, 2, 5, most} {
					checkApart(t, fmt.Sprintf("run of %d", n), tape.Run(x, n), all[min(at+min(max(n, 0), 100), last)])
				}
				if after := told(); after != before {
					t.Errorf("the tape is now %s, not %s", after, before)
				}
			}
		}
	}
}

// R4: lists that the handed tape, or what it begins with, has in common are not in common any more.
func TestShared(t *testing.T) {
	nums, w := []int{0, 2}, row(one, 3*one)
	c := job{
		L:      graphOf(api.Node{Op: api.OParam, Nums: nums}, api.Node{Op: api.OParam, Nums: nums}, of(api.OMul, 0, 1), with(of(api.OSum, 2), 0), with(of(api.OReshape, 3)), of(api.OTurn, 4)),
		In:     w,
		Params: args(w, w, w),
	}
	all := steps(c)
	start := tape.Begin(c.L, c.In, c.Params)
	checkApart(t, "begun", tape.Begin(c.L, c.In, c.Params), all[0])
	for at := range all {
		checkApart(t, fmt.Sprintf("run of %d", at), tape.Run(start, at), all[at])
	}
	// by hand, all tensors in one memory
	x := all[len(all)-1]
	x.Vals, x.Hang, x.Grads = c.Params, c.Params, c.Params
	checkApart(t, "step of what is done", tape.Step(x), x)
	checkApart(t, "run of what is done", tape.Run(x, most), x)
}

// R4, R5: a tape goes on as it was, whatever becomes of what it began with, and of the tapes that it was.
func TestKept(t *testing.T) {
	for _, c := range various() {
		all := steps(c)
		roomyJob, handed := sample.RoomyJob(c)
		x := tape.Begin(roomyJob.L, roomyJob.In, roomyJob.Params)
		for _, l := range handed {
			sample.Overwrite(l)
		}
		clear(roomyJob.L)
		clear(roomyJob.Params)
		for at, want := range all {
			next := tape.Step(x)
			checkApart(t, fmt.Sprintf("step %d", at), x, want)
			x = next
		}
	}
}

// R4: two runs of one tape do not disturb each other, whichever goes on first.
func TestFork(t *testing.T) {
	for _, c := range various() {
		all := steps(c)
		last := len(all) - 1
		x := tape.Begin(c.L, c.In, c.Params)
		for at := range all {
			a, b := tape.Step(x), tape.Step(x)
			further := tape.Step(a)
			checkApart(t, "the first one", a, all[min(at+1, last)])
			checkApart(t, "the first one's next", further, all[min(at+2, last)])
			check(t, "the second one", b, all[min(at+1, last)])
			check(t, "the second one's next", tape.Step(b), all[min(at+2, last)])
			x = b
		}
	}
}

// changes are what may be done to a tape by hand.
func changes() []func(x *api.Tape) {
	var all []func(x *api.Tape)
	for _, phase := range []int{least, -1, 0, 1, 2, 3, 4, 5, 256 + 1, 1<<32 + 1, most} {
		all = append(all, func(x *api.Tape) { x.Phase = phase })
	}
	for _, at := range []int{least, -25, -2, -1, 0, 1, 2, 4, 9, 23, 24, 25, 1 << 32, most} {
		all = append(all, func(x *api.Tape) { x.At = at })
	}
	for _, l := range [][]api.Node{nil, graphOf(number(1)), graphOf(param(7)), graphOf(param(0), of(api.ONeg, 0)), line(24), line(25), graphOf(of(api.ONeg, 0)), graphOf(param(8)), graphOf(number(2), with(of(api.OSum, 0), 0)), graphOf(of(api.OAdd, least, most)), {{}}} {
		all = append(all, func(x *api.Tape) { x.Graph = l })
	}
	for _, l := range append([][]api.Tensor{nil, make([]api.Tensor, 1), make([]api.Tensor, 24), slices.Repeat(args(cell(1)), 2), slices.Repeat(args(cell(most)), 8), slices.Repeat(args(row(1, 2)), 12), slices.Repeat(args(cell(0)), 25)}, slices.Repeat(args(sample.Of([]int{least}, 1)), 8)) {
		all = append(all,
			func(x *api.Tape) { x.Params = l }, func(x *api.Tape) { x.Vals = l }, func(x *api.Tape) { x.Hang = l }, func(x *api.Tape) { x.Grads = l },
			func(x *api.Tape) { x.Vals = append(slices.Clone(l), x.Vals...)[:len(x.Vals)] }, func(x *api.Tape) { x.Hang = append(slices.Clone(l), x.Hang...)[:len(x.Hang)] }, func(x *api.Tape) { x.Grads = append(slices.Clone(l), x.Grads...)[:len(x.Grads)] },
		)
	}
	return append(all, func(x *api.Tape) { x.Input = api.Tensor{} }, func(x *api.Tape) { x.Input = row(1, 2, 3) }, func(x *api.Tape) { x.Err = api.ErrOver }, func(x *api.Tape) { x.Err = -99 }, func(x *api.Tape) {})
}

// checkMade holds that a tape that was made by hand is stepped without a panic, as a run is, to its end, and left as it was.
func checkMade(t *testing.T, x api.Tape) {
	t.Helper()
	before := fmt.Sprint(x)
	next := tape.Step(x)
	end := tape.Run(x, most)
	if fmt.Sprint(x) != before {
		t.Errorf("the tape is now %v, not %s", x, before)
	}
	check(t, "step again", tape.Step(x), next)
	check(t, "run of 2", tape.Run(x, 2), tape.Step(next))
	check(t, "run of 0", tape.Run(x, 0), x)
	check(t, "run of its end", tape.Run(end, most), end)
	check(t, "run of 48", tape.Run(x, 48), end)
	if x.Phase != api.TForward && x.Phase != api.TBackward {
		check(t, "step in another phase", next, x)
	}
	if next.Phase == api.TFailed && x.Phase != api.TFailed && len(next.Vals)+len(next.Hang)+len(next.Grads) > 0 {
		t.Errorf("%s failed, and has something left", short(next))
	}
}

// R1, R5: tapes that were made by hand: none panics, and each comes to an end.
func TestMade(t *testing.T) {
	for _, x := range []api.Tape{{}, {Phase: api.TForward}, {Phase: api.TBackward}, {Phase: api.TDone}, {Phase: api.TFailed}, {Phase: api.TBackward, Graph: line(24)}, {Phase: api.TForward, Graph: line(100000)}} {
		checkMade(t, x)
	}
	for _, c := range []job{mixed().c, sample.Even()[1], {L: line(3)}} {
		for at, x := range steps(c) {
			for _, first := range changes() {
				y := x
				first(&y)
				checkMade(t, y)
				if at%16 != 2 {
					continue
				}
				for _, second := range changes() {
					z := y
					second(&z)
					checkMade(t, z)
				}
			}
		}
	}
}
