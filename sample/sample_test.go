package sample

import (
	"fmt"
	"slices"
	"testing"

	"fuller/api"
	"fuller/graph"
	"fuller/infer"
	"fuller/tensor"
)

// counter counts faults.
type counter struct{ faults int }

func (c *counter) Helper() {}

func (c *counter) Errorf(string, ...any) { c.faults++ }

func TestCheck(t *testing.T) {
	for _, c := range []struct {
		got    api.Tensor
		err    api.Errno
		faults int
	}{
		{Of([]int{2}, 1, 2), api.OK, 0}, {Of([]int{2}, 1, 2), api.ErrOver, 1}, {Of([]int{2}, 1, 3), api.OK, 1},
		{Of([]int{1, 2}, 1, 2), api.OK, 1}, {api.Tensor{}, api.OK, 1},
	} {
		var told counter
		Check(&told, "call", c.got, c.err, Row(1, 2), api.OK)
		if told.faults != c.faults {
			t.Errorf("%v, %d: %d faults, not %d", c.got, c.err, told.faults, c.faults)
		}
	}
}

// Calls that answer new memory have no fault; those that share any, or write what they were handed, have some.
func TestApart(t *testing.T) {
	x := Of([]int{2, 1, 7}[:2], []int{5, 6, 7}[:2]...)
	for i, c := range []struct {
		answer func() (api.Tensor, api.Errno)
		apart  bool
	}{
		{func() (api.Tensor, api.Errno) { return Of(slices.Clone(x.Shape), slices.Clone(x.Data)...), api.OK }, true},
		{func() (api.Tensor, api.Errno) { return Of(slices.Clone(x.Shape), x.Data...), api.OK }, false},
		{func() (api.Tensor, api.Errno) { return Of(x.Shape, slices.Clone(x.Data)...), api.OK }, false},
		{func() (api.Tensor, api.Errno) { return Of([]int{2, 1}, append(x.Data[:1], 6, 9)[:2]...), api.OK }, false},
		{func() (api.Tensor, api.Errno) { l := []int{2, 1, 5, 6}; return Of(l[:2], l[2:]...), api.OK }, false},
	} {
		copy(x.Shape[:3], []int{2, 1, 7})
		copy(x.Data[:3], []int{5, 6, 7})
		var told counter
		Apart(&told, "call", c.answer, Of([]int{2, 1}, 5, 6), x.Shape[:3], x.Data[:3])
		if (told.faults == 0) != c.apart {
			t.Errorf("call %d: %d faults", i, told.faults)
		}
	}
}

func TestCheckBytes(t *testing.T) {
	for _, c := range []struct {
		got    []byte
		err    api.Errno
		faults int
	}{
		{[]byte{1, 2}, api.OK, 0}, {[]byte{1, 2}, api.ErrPack, 1}, {[]byte{1, 3}, api.OK, 1}, {[]byte{1}, api.OK, 1}, {nil, api.OK, 1},
	} {
		var told counter
		CheckBytes(&told, "call", c.got, c.err, []byte{1, 2}, api.OK)
		if told.faults != c.faults {
			t.Errorf("%v, %d: %d faults, not %d", c.got, c.err, told.faults, c.faults)
		}
	}
}

// What is put is to stand behind all that is ahead; beside an error there is to be nothing.
func TestCheckBehind(t *testing.T) {
	for i, c := range []struct {
		put func(b []byte) ([]byte, api.Errno)
		err api.Errno
		may bool
	}{
		{func(b []byte) ([]byte, api.Errno) { return slices.Concat(b, []byte{9}), api.OK }, api.OK, true},
		{func(b []byte) ([]byte, api.Errno) { return []byte{9}, api.OK }, api.OK, false},
		{func(b []byte) ([]byte, api.Errno) { return b, api.OK }, api.OK, false},
		{func(b []byte) ([]byte, api.Errno) { return nil, api.ErrPack }, api.OK, false},
		{func(b []byte) ([]byte, api.Errno) { return nil, api.ErrPack }, api.ErrPack, true},
		{func(b []byte) ([]byte, api.Errno) { return b, api.ErrPack }, api.ErrPack, false},
	} {
		var told counter
		CheckBehind(&told, "call", c.put, []byte{9}, c.err)
		if (told.faults == 0) != c.may {
			t.Errorf("put %d: %d faults", i, told.faults)
		}
	}
}

// Answers that share memory have a fault; those that share none, or are none, have none.
func TestBytesApart(t *testing.T) {
	b := []byte{1, 2, 3, 4}
	for i, c := range []struct {
		all   []Answer
		apart bool
	}{
		{[]Answer{{[]byte{1, 2}, []byte{1, 2}}, {[]byte{1, 2}, []byte{1, 2}}, {nil, []byte{}}}, true},
		{[]Answer{{[]byte{1, 2}, []byte{1, 3}}}, false},
		{[]Answer{{b[:2:2], []byte{1, 2}}, {b[2:], []byte{3, 4}}}, true},
		{[]Answer{{b[:2], []byte{1, 2}}, {b[2:], []byte{3, 4}}}, false},
		{[]Answer{{b[2:], []byte{3, 4}}, {b[:2], []byte{1, 2}}}, false},
		{[]Answer{{b[1:3], []byte{2, 3}}, {b[2:], []byte{3, 4}}}, false},
	} {
		copy(b, []byte{1, 2, 3, 4})
		var told counter
		BytesApart(&told, c.all)
		if (told.faults == 0) != c.apart {
			t.Errorf("answers %d: %d faults", i, told.faults)
		}
	}
}

// Lists that share memory have a fault, and so have others than they are to be; those that share none, or are none, have none.
func TestListsApart(t *testing.T) {
	l := []int{1, 2, 3, 4}
	for i, c := range []struct {
		got, want [][]int
		apart     bool
	}{
		{nil, nil, true},
		{[][]int{{1, 2}, nil, {1, 2}}, [][]int{{1, 2}, {}, {1, 2}}, true},
		{[][]int{{1, 2}}, [][]int{{1, 3}}, false},
		{[][]int{{1, 2}}, [][]int{{1, 2}, {}}, false},
		{[][]int{{1, 2}, {}}, [][]int{{1, 2}}, false},
		{[][]int{l[:2:2], l[2:]}, [][]int{{1, 2}, {3, 4}}, true},
		{[][]int{l[:2], l[2:]}, [][]int{{1, 2}, {3, 4}}, false},
		{[][]int{l[2:], l[:2]}, [][]int{{3, 4}, {1, 2}}, false},
		{[][]int{l[1:3], l[2:]}, [][]int{{2, 3}, {3, 4}}, false},
	} {
		copy(l, []int{1, 2, 3, 4})
		var told counter
		ListsApart(&told, c.got, c.want)
		if (told.faults == 0) != c.apart {
			t.Errorf("lists %d: %d faults", i, told.faults)
		}
	}
}

func TestLists(t *testing.T) {
	for _, c := range []struct {
		got  [][]byte
		want string
	}{
		{Lists[byte](2), "[[]]"}, {Lists[byte](0, 1, 2), "[[]]"}, {Lists[byte](2, 7), "[[] [7] [7 7]]"},
		{Lists[byte](2, 1, 2), "[[] [1] [2] [1 1] [1 2] [2 1] [2 2]]"},
	} {
		if got := fmt.Sprint(c.got); got != c.want {
			t.Errorf("lists are %s; want %s", got, c.want)
		}
	}
}

// A list's spare room is written over, and what is beside it is not.
func TestOverwrite(t *testing.T) {
	l, b := []int{1, 2, 3}, []byte{1, 2, 3}
	Overwrite(l[:1:2])
	Overwrite(b[:1:2])
	Overwrite[int](nil)
	if l[0] == 1 || l[1] == 2 || l[2] != 3 || b[0] == 1 || b[1] == 2 || b[2] != 3 {
		t.Errorf("what was written over is %v, %v", l, b)
	}
}

func TestSamples(t *testing.T) {
	for _, s := range Shapes(1, 2, 16) {
		if !tensor.Check(Counted(s, 3)) || !tensor.Check(Filled(s, 1, 2)) {
			t.Errorf("tensors of %v may not be", s)
		}
	}
	for _, x := range WrongTensors() {
		if tensor.Check(x) {
			t.Errorf("a tensor of %v with %d numbers may be", x.Shape, len(x.Data))
		}
	}
}

// There is one fit of each op, of tensors that may be, and behind nodes of which it may be.
func TestFits(t *testing.T) {
	in, params := Outside()
	fits := map[int]int{}
	for _, f := range Fits() {
		fits[f.N.Op]++
		if graph.Arity(f.N.Op) != len(f.Args) || !tensor.Check(f.Want) {
			t.Errorf("%v is of %d tensors, and comes to %v", f.N, len(f.Args), f.Want)
		}
		n := With(Node(f.N.Op, []int{0, 1}[:len(f.Args)]...), f.N.Nums...)
		if !graph.Check(append(Three(), n)) {
			t.Errorf("%v may not be", n)
		}
		for _, x := range f.Args {
			if !tensor.Check(x) {
				t.Errorf("%v is of %v", f.N, x)
			}
		}
	}
	for _, op := range slices.Concat(Ops()[0], Ops()[1], Ops()[2]) {
		if fits[op] != 1 {
			t.Errorf("of op %d there are %d", op, fits[op])
		}
	}
	for _, x := range append(params, in) {
		if !tensor.Check(x) || !slices.Equal(x.Shape, in.Shape) {
			t.Errorf("outside is %v", x)
		}
	}
}

func TestTensorsOf(t *testing.T) {
	for count, long := range []int{1, 96, 96 * 96} {
		all := TensorsOf(count)
		if len(all) != long {
			t.Errorf("of %d there are %d; want %d", count, len(all), long)
		}
		for _, l := range all {
			if len(l) != count || len(ShapesOf(l)) != count {
				t.Errorf("%v are %d, not %d", l, len(l), count)
			}
		}
	}
}

// What is the same has the same shape and the same numbers, whether a list is nil or empty.
func TestSame(t *testing.T) {
	for _, c := range []struct {
		a, b api.Tensor
		same bool
	}{
		{Cell(1), Of([]int{}, 1), true}, {api.Tensor{}, Of([]int{}, []int{}...), true}, {Table(1, 2, 3, 4), Of([]int{1, 2}, 3, 4), true},
		{Cell(1), Row(1), false}, {Table(1, 2, 3, 4), Table(2, 1, 3, 4), false}, {Row(1, 2), Row(1, 3), false}, {Row(1, 2), Of([]int{2}, 1), false},
	} {
		if Same(c.a, c.b) != c.same {
			t.Errorf("%v and %v: not %v", c.a, c.b, c.same)
		}
	}
}

// A roomy tensor is the same one, in the lists beside it, and not in its own.
func TestRoomy(t *testing.T) {
	for _, x := range Tensors(Cell(5), Row(1, 2), Table(2, 2, 1, 2, 3, 4)) {
		got, lists := Roomy(x)
		if !Same(got, x) || cap(got.Shape) == len(got.Shape) || cap(got.Data) == len(got.Data) || fmt.Sprint(ListsOf(Tensors(got))) != fmt.Sprint([][]int{x.Shape, x.Data}) {
			t.Errorf("%v is %v", x, got)
		}
		before := fmt.Sprint(x)
		for _, l := range lists {
			Overwrite(l)
		}
		if Same(got, x) || fmt.Sprint(x) != before {
			t.Errorf("written over, %v is %v, and was %s", x, got, before)
		}
	}
}

// Nodes of each op may be, and there are numbers of each that may be, and others that may not.
func TestNodes(t *testing.T) {
	for count, ops := range Ops() {
		for _, op := range ops {
			n := RightNode(op)
			if !graph.Check(append(Three(), n)) || len(n.Args) != count {
				t.Errorf("%v may not be, or is not reckoned of %d nodes", n, count)
			}
			for _, nums := range RightNums(op) {
				if !graph.Check(append(Three(), With(n, nums...))) {
					t.Errorf("%v may not be numbers of %v", nums, n)
				}
			}
			for _, nums := range WrongNums(op) {
				if graph.Check(append(Three(), With(n, nums...))) {
					t.Errorf("%v may be numbers of %v", nums, n)
				}
			}
			if len(RightNums(op)) == 0 || len(WrongNums(op)) == 0 {
				t.Errorf("%v has no numbers that may be, or none that may not", n)
			}
		}
	}
	for _, op := range WrongOps() {
		if graph.Arity(op) != -1 {
			t.Errorf("there is an op %d", op)
		}
	}
	if !graph.Check(Line(api.MaxNodes)) || len(Line(api.MaxNodes+1)) != api.MaxNodes+1 {
		t.Errorf("a line may not be, or is not as long as it is to be")
	}
}

func TestGrown(t *testing.T) {
	choice := func(node int) []api.Node { return Graph(Number(node), Param(node)) }
	for _, c := range []struct {
		ahead []api.Node
		count int
		want  [][]api.Node
	}{
		{nil, 0, [][]api.Node{nil}},
		{Three(), 0, [][]api.Node{Three()}},
		{nil, 1, [][]api.Node{{Number(0)}, {Param(0)}}},
		{Graph(Input(5)), 1, [][]api.Node{{Input(5), Number(1)}, {Input(5), Param(1)}}},
		{nil, 2, [][]api.Node{{Number(0), Number(1)}, {Number(0), Param(1)}, {Param(0), Number(1)}, {Param(0), Param(1)}}},
	} {
		if got := Grown(c.ahead, c.count, choice); fmt.Sprint(got) != fmt.Sprint(c.want) {
			t.Errorf("graphs of %d behind %v are %v; want %v", c.count, c.ahead, got, c.want)
		}
	}
}

// The first node that is wrong stands at each place that a graph has, and behind them.
func TestWrongGraphs(t *testing.T) {
	first := map[int]int{}
	for _, l := range WrongGraphs() {
		if graph.Check(l) {
			t.Errorf("%v may be", l)
		}
		right := 0
		for right < len(l) && graph.Check(l[:right+1]) {
			right++
		}
		first[right]++
	}
	for right := range api.MaxNodes + 1 {
		if first[right] == 0 {
			t.Errorf("none is wrong from node %d on", right)
		}
	}
}

// Each node that fails fits behind those ahead, none of which is the last there may be, and there are some of each error of a node that fits.
func TestFailures(t *testing.T) {
	ahead, in, params := Ahead()
	if !tensor.Check(in) || len(params) >= api.MaxParams || len(ahead) > api.MaxNodes/2 {
		t.Errorf("%d nodes are ahead, of %v, and of %d parameters", len(ahead), in, len(params))
	}
	times := map[api.Errno]int{}
	for _, f := range Failures() {
		times[f.Err]++
		if _, node, err := infer.Shapes(append(slices.Clone(ahead), f.N)); err != api.OK {
			t.Errorf("%v does not fit: %d, %d", f.N, node, err)
		}
	}
	for _, err := range []api.Errno{api.ErrOver, api.ErrZero, api.ErrNeg, api.ErrInput} {
		if times[err] == 0 {
			t.Errorf("failures are %v, none of them %d", times, err)
		}
	}
}

// Jobs are of graphs whose shapes fit, and of tensors that may be where a graph names one; what is weighed is as long as its lists ask for.
func TestJobs(t *testing.T) {
	chain, errs := Chain(map[int]int{5: 0, 9: 1}, 8)
	all := append(Even(), UsedBy([]int{1, 2, 3}), NamedBy([]int{1, 2, 3}), NamedTwice([3]int{1, 2, 3}), JoinedTwice([3]int{1, 2, 3}), Both(api.OAdd, 1, 2), chain)
	for _, c := range all {
		if _, node, err := infer.Shapes(c.L); err != api.OK {
			t.Errorf("%v does not fit: %d, %d", c.L, node, err)
		}
		if _, given := graph.Inputs(c.L); given && !tensor.Check(c.In) {
			t.Errorf("%v is given %v", c.L, c.In)
		}
		for _, p := range graph.Params(c.L) {
			if p >= len(c.Params) || !tensor.Check(c.Params[p]) {
				t.Errorf("%v has no parameter %d", c.L, p)
			}
		}
	}
	if len(chain.L) != api.MaxNodes || errs[5] != api.ErrZero || errs[9] != api.ErrOver || slices.Contains(graph.Live(chain.L), 8) {
		t.Errorf("chain is %v, with %v", chain.L, errs)
	}
	if len(UsedBy([]int{1, 2, 3}).L) != 9 || len(NamedBy([]int{1, 2, 3}).L) != 11 || len(Threes()) != 125 {
		t.Errorf("%v, %v, %d", UsedBy([]int{1, 2, 3}).L, NamedBy([]int{1, 2, 3}).L, len(Threes()))
	}
	for _, f := range Turnings(0) {
		if _, _, err := infer.Shapes(Graph(Param(0), Number(1), f.N)); err != api.OK || f.Err == api.OK {
			t.Errorf("%v: %d, %d", f.N, err, f.Err)
		}
	}
}

// A node that is put in is used by none, and is not live, and leaves the others as they were.
func TestInserted(t *testing.T) {
	for _, c := range Even() {
		for place := range c.L {
			before := fmt.Sprint(c.L)
			l := Inserted(c.L, place, Number(5))
			if fmt.Sprint(c.L) != before || len(l) != len(c.L)+1 || !graph.Check(l) || len(graph.Uses(l, place)) > 0 || len(graph.Live(l)) != len(graph.Live(c.L)) {
				t.Errorf("%s, with one put in at %d: %v", before, place, l)
			}
			for _, n := range Unlive(c.L, place) {
				if !graph.Check(Inserted(c.L, place, n)) {
					t.Errorf("%v may not be put in at %d of %v", n, place, c.L)
				}
			}
		}
	}
}

// A roomy job is the same one, in the lists beside it, and not in its own; all its lists have spare room.
func TestRoomyJob(t *testing.T) {
	for _, c := range Even() {
		before := fmt.Sprint(c)
		got, lists := RoomyJob(c)
		if fmt.Sprint(got.L, got.Params) != fmt.Sprint(c.L, c.Params) || !Same(got.In, c.In) || cap(got.L) == len(got.L) || cap(got.Params) == len(got.Params) || len(lists) != 2*(len(c.L)+1+len(c.Params)) {
			t.Errorf("%s is %v", before, got)
		}
		for _, n := range got.L {
			if cap(n.Args) == len(n.Args) || cap(n.Nums) == len(n.Nums) {
				t.Errorf("%v has no spare room", n)
			}
		}
		for _, l := range lists {
			Overwrite(l)
		}
		if fmt.Sprint(c) != before || graph.Check(got.L) {
			t.Errorf("written over, %v is %v, and was %s", c, got, before)
		}
	}
}
