package words

import (
	"slices"
	"testing"

	"fuller/api"
	"fuller/graph"
	"fuller/sample"
	"fuller/tensor"
)

// By hand: two nodes name the parameter 1, and one that is not live the parameter 3; what hangs on each node, of those that use it from a place on.
func TestSlopes(t *testing.T) {
	const one = api.One
	of := sample.Node
	c := sample.Job{
		L:      sample.Graph(sample.Param(1), sample.Param(3, 2), sample.Param(1), of(api.OMul, 0, 2), of(api.OMul, 3, 0), of(api.OSub, 4, 0)),
		Params: sample.Tensors(api.Tensor{}, sample.Cell(2*one), api.Tensor{}, sample.Row(1, 2)),
	}
	w := sample.Cell(2 * one)
	r := Reckoned{c.L, sample.Tensors(w, c.Params[3], w, sample.Cell(4*one), sample.Cell(8*one), sample.Cell(6*one))}
	if down := r.Down(2); !slices.Equal(down, []int{5, 4, 3, 2}) {
		t.Errorf("down from the last one on are %v", down)
	}
	for _, h := range []struct {
		node, from int
		want       api.Tensor
	}{
		{5, 6, sample.Cell(one)}, {4, 6, api.Tensor{}}, {4, 5, sample.Cell(one)}, {0, 6, api.Tensor{}}, {0, 5, sample.Cell(-one)}, {0, 4, sample.Cell(3 * one)}, {0, 3, sample.Cell(7 * one)},
		{0, 0, sample.Cell(7 * one)}, {2, 4, api.Tensor{}}, {2, 3, sample.Cell(4 * one)}, {1, 0, api.Tensor{}},
	} {
		if got, err := r.Hang(h.node, h.from); !sample.Same(got, h.want) || err != api.OK {
			t.Errorf("on %d, from %d on, hangs %v, %d; want %v", h.node, h.from, got, err, h.want)
		}
	}
	for from, want := range sample.Tensors(sample.Cell(11*one), sample.Cell(4*one), sample.Cell(4*one), api.Tensor{}) {
		if got, err := r.Slopes(1, from); !sample.Same(got, want) || err != api.OK {
			t.Errorf("slopes from %d on are %v, %d; want %v", from, got, err, want)
		}
	}
	got, loss, node, err := Slopes(c)
	want := make([]api.Tensor, api.MaxParams)
	want[1], want[3] = sample.Cell(11*one), sample.Row(0, 0)
	if !slices.EqualFunc(got, want, sample.Same) || loss != 6*one || node != -1 || err != api.OK {
		t.Errorf("slopes are %v, %d, %d, %d; want %v", got, loss, node, err, want)
	}
}

// By hand: errors of each kind, and at which node.
func TestFails(t *testing.T) {
	of, most := sample.Node, sample.Most
	zero, two := sample.Tensors(sample.Cell(0)), sample.Tensors(sample.Row(1, 2))
	for _, c := range []struct {
		job  sample.Job
		node int
		err  api.Errno
	}{
		{sample.Job{}, -1, api.ErrGraph}, {sample.Job{L: sample.Graph(sample.Param(0), sample.With(of(api.OSum, 0), 0)), Params: zero}, 1, api.ErrShape}, {sample.Job{L: sample.Graph(sample.Number(1), sample.Param(0))}, 1, api.ErrInput},
		{sample.Job{L: sample.Graph(sample.Param(0, 2)), Params: two}, 0, api.ErrLoss}, {sample.Job{L: sample.Graph(sample.Param(0), of(api.OSqrt, 0), of(api.ONeg, 1)), Params: zero}, 1, api.ErrZero},
		{sample.UsedBy([]int{1, most}), 3, api.ErrOver}, {sample.NamedBy([]int{1, most}), 0, api.ErrOver}, {sample.JoinedTwice([3]int{1, most, 0}), 3, api.ErrOver}, {sample.Both(api.OAdd, 1, most), 3, api.ErrOver},
	} {
		got, loss, node, err := Slopes(c.job)
		if len(got) > 0 || loss != 0 || node != c.node || err != c.err {
			t.Errorf("%v: %v, %d, %d, %d; want %d, %d", c.job.L, got, loss, node, err, c.node, c.err)
		}
	}
}

// There are as many graphs as there are choices, each of them of its own, and of tensors that may be, and all that are closed and fit end in one number.
func TestGrown(t *testing.T) {
	if all := GrownNumbers(2); len(all) != 1+16+16*32 {
		t.Errorf("there are %d graphs of numbers", len(all))
	}
	all := GrownTables()
	if len(all) != 2*(1+71+71*114) {
		t.Errorf("there are %d graphs of tables", len(all))
	}
	for at, c := range all {
		if !graph.Check(c.L) || !tensor.Check(c.In) {
			t.Errorf("%v, of %v, may not be", c.L, c.In)
		}
		if _, _, _, err := Slopes(c); at%2 == 1 && err == api.ErrLoss {
			t.Errorf("%v is closed, and ends in more than one number", c.L)
		}
	}
}
