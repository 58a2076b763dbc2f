package graph

import (
	"fmt"
	"slices"
	"testing"

	"fuller/api"
	"fuller/sample"
)

const (
	least = sample.Least
	most  = sample.Most
)

var of, with, input, param, number, graphOf, line = sample.Node, sample.With, sample.Input, sample.Param, sample.Number, sample.Graph, sample.Line

// checkRight holds that l may be.
func checkRight(t *testing.T, l []api.Node) {
	t.Helper()
	if !Check(l) {
		t.Errorf("%v may not be", l)
	}
}

// checkWrong holds that l may not be, and that nothing is told of it.
func checkWrong(t *testing.T, l []api.Node) {
	t.Helper()
	shape, is := Inputs(l)
	told := slices.Concat(shape, Params(l), Live(l))
	for _, node := range []int{-1, 0, 1, 2, len(l) - 2, len(l) - 1, len(l)} {
		told = append(told, Uses(l, node)...)
	}
	if Check(l) || is || len(told) > 0 {
		t.Errorf("%d nodes, at first %v: may be: %v, told: %v, %v", len(l), l[:min(len(l), 4)], Check(l), is, told)
	}
}

// checkList holds numbers that a call answered against what they are to be.
func checkList(t *testing.T, call string, l []api.Node, got, want []int) {
	t.Helper()
	if !slices.Equal(got, want) {
		t.Errorf("%s of %v is %v; want %v", call, l, got, want)
	}
}

// P10.1: all ops, and what is none.
func TestArity(t *testing.T) {
	for count, l := range sample.Ops() {
		for _, op := range l {
			if got := Arity(op); got != count {
				t.Errorf("Arity(%d) is %d; want %d", op, got, count)
			}
		}
	}
	for _, op := range sample.WrongOps() {
		if got := Arity(op); got != -1 {
			t.Errorf("Arity(%d) is %d; want -1", op, got)
		}
	}
}

// P10.1: graphs that may not be, in each way.
func TestCheckWrong(t *testing.T) {
	for _, l := range sample.WrongGraphs() {
		checkWrong(t, l)
	}
}

// P10.1: as many nodes as there may be.
func TestCheckCount(t *testing.T) {
	for count := 1; count <= api.MaxNodes; count++ {
		checkRight(t, line(count))
		checkRight(t, slices.Repeat(graphOf(number(7)), count))
	}
}

// P10.1: each op alone, or behind nodes of it, with all Nums that it may have, and of all nodes ahead.
func TestCheckOp(t *testing.T) {
	for count, l := range sample.Ops() {
		for _, op := range l {
			n := sample.RightNode(op)
			for _, nums := range sample.RightNums(op) {
				checkRight(t, append(sample.Three(), with(n, nums...)))
				if count == 0 {
					checkRight(t, graphOf(with(n, nums...)))
				}
			}
			for _, args := range append(sample.Lists(2, 0, 1, 2), []int{}) {
				if len(args) == count {
					n.Args = args
					checkRight(t, append(sample.Three(), n))
				}
			}
		}
	}
}

// P10.1: what is given has one shape, and so has each parameter, wherever it is named; others have any.
func TestCheckAlike(t *testing.T) {
	shapes := append(sample.Shapes(1, 2, 3, 6), []int{})
	for _, a := range shapes {
		checkRight(t, graphOf(input(a...), input(a...)))
		checkRight(t, graphOf(param(7, a...), param(7, a...)))
		for _, b := range shapes {
			checkRight(t, graphOf(input(a...), param(0, b...)))
			checkRight(t, graphOf(param(0, a...), param(7, b...)))
			checkRight(t, graphOf(input(2, 3), with(of(api.OReshape, 0), a...), with(of(api.OReshape, 0), b...)))
		}
	}
	// A parameter's number is no side: the rest is what is alike.
	checkRight(t, graphOf(param(1, 2), param(2, 1), input(1, 2), input(1, 2), param(1, 2)))
	for _, alike := range []func(s ...int) api.Node{input, func(s ...int) api.Node { return param(3, s...) }} {
		l := slices.Repeat(graphOf(alike(2, 3)), api.MaxNodes)
		checkRight(t, l)
		for place := range l {
			changed := slices.Clone(l)
			changed[place] = param(4, 3, 2)
			checkRight(t, changed)
		}
	}
}

// P10.2
func TestParams(t *testing.T) {
	for _, c := range []struct {
		l    []api.Node
		want []int
	}{
		{graphOf(number(3)), nil},
		{graphOf(input(3), with(of(api.OSlice, 0), 5, 6, 7)), nil},
		{graphOf(param(0)), []int{0}},
		{graphOf(param(7, 4, 4, 4)), []int{7}},
		{graphOf(param(5), input(2, 2), param(2), param(5)), []int{2, 5}},
		{graphOf(param(3), param(2), param(1), param(2), param(3), number(1)), []int{1, 2, 3}},
		{graphOf(param(7), param(6), param(5), param(4), param(3), param(2), param(1), param(0)), []int{0, 1, 2, 3, 4, 5, 6, 7}},
		{slices.Repeat(graphOf(param(6, 2, 3)), api.MaxNodes), []int{6}},
	} {
		checkList(t, "Params", c.l, Params(c.l), c.want)
	}
}

// P10.2: all sets of parameters, in all orders of some.
func TestParamsAll(t *testing.T) {
	for _, named := range sample.Lists(5, 0, 1, 3, 7) {
		if len(named) == 0 {
			continue
		}
		var l []api.Node
		for _, p := range named {
			l = append(l, param(p, p+1), number(p+1), input(2))
		}
		want := slices.Compact(slices.Sorted(slices.Values(named)))
		checkList(t, "Params", l, Params(l), want)
	}
}

// P10.2
func TestInputs(t *testing.T) {
	for _, c := range []struct {
		l    []api.Node
		want []int
		is   bool
	}{
		{graphOf(number(3)), nil, false},
		{graphOf(param(1, 2, 3)), nil, false},
		{graphOf(number(1), with(of(api.OReshape, 0), 1, 1)), nil, false},
		{graphOf(input()), nil, true},
		{graphOf(input(1)), []int{1}, true},
		{graphOf(input(2, 3)), []int{2, 3}, true},
		{graphOf(number(2), param(3, 4), input(4, 4, 4)), []int{4, 4, 4}, true},
		{graphOf(number(2), input(16, 4), input(16, 4), number(1)), []int{16, 4}, true},
		{graphOf(input(2, 2), with(of(api.OReshape, 0), 4), param(0, 5)), []int{2, 2}, true},
	} {
		s, is := Inputs(c.l)
		if !slices.Equal(s, c.want) || is != c.is {
			t.Errorf("Inputs(%v) is %v, %v; want %v, %v", c.l, s, is, c.want, c.is)
		}
	}
	for _, s := range sample.Shapes(1, 2, 3, 4, 8, 16) {
		for place := range api.MaxNodes {
			l := slices.Insert(slices.Repeat(graphOf(param(1, 3)), api.MaxNodes-1), place, input(s...))
			got, is := Inputs(l)
			checkList(t, "Inputs", l, got, s)
			if !is {
				t.Errorf("Inputs(%v) is none", l)
			}
		}
	}
}

// P10.3
func TestUses(t *testing.T) {
	l := graphOf(param(5), input(2, 2), param(2), param(5), of(api.ONeg, 2), of(api.OMul, 0, 0), of(api.OAdd, 0, 5), of(api.OSub, 6, 0))
	for _, c := range []struct {
		l    []api.Node
		node int
		want []int
	}{
		{l, 0, []int{5, 5, 6, 7}}, {l, 1, nil}, {l, 2, []int{4}}, {l, 3, nil}, {l, 4, nil}, {l, 5, []int{6}}, {l, 6, []int{7}}, {l, 7, nil},
		{l[:7], 0, []int{5, 5, 6}}, {l[:1], 0, nil},
		// no such node
		{l, 8, nil}, {l, 24, nil}, {l, 99, nil}, {l, -1, nil}, {l, least, nil}, {l, most, nil}, {l, 1 << 32, nil}, {l, -1 << 32, nil},
		// numbers that are no Args
		{graphOf(number(0), param(0), with(of(api.OSum, 1), 0), with(of(api.OSlice, 1), 0, 0, 0)), 0, nil},
		{graphOf(number(0), of(api.OMatmul, 0, 0), with(of(api.OJoin, 1, 0), 1), with(of(api.OMax, 1), 0)), 1, []int{2, 3}},
	} {
		checkList(t, "Uses", c.l, Uses(c.l, c.node), c.want)
	}
}

// P10.3
func TestLive(t *testing.T) {
	for _, c := range []struct {
		l    []api.Node
		want []int
	}{
		{graphOf(number(1)), []int{0}},
		{graphOf(number(1), number(2), of(api.ONeg, 0)), []int{0, 2}},
		{graphOf(number(1), number(2), of(api.ONeg, 0), number(3)), []int{3}},
		{graphOf(number(1), of(api.OAdd, 0, 0), of(api.ONeg, 0)), []int{0, 2}},
		{graphOf(number(1), of(api.OAdd, 0, 0), of(api.OMul, 1, 1)), []int{0, 1, 2}},
		{graphOf(param(5), input(2, 2), param(2), param(5), of(api.ONeg, 2), of(api.OMul, 0, 0), of(api.OAdd, 0, 5)), []int{0, 5, 6}},
		{graphOf(input(2), input(2), number(3), with(of(api.OJoin, 1, 0), 2), of(api.ONeg, 2), with(of(api.OSum, 3), 4)), []int{0, 1, 3, 5}},
		// Who is used only by one that is not live is not live.
		{graphOf(number(1), of(api.ONeg, 0), of(api.ONeg, 1), of(api.ONeg, 0)), []int{0, 3}},
	} {
		checkList(t, "Live", c.l, Live(c.l), c.want)
	}
	for count := 1; count <= api.MaxNodes; count++ {
		all := Live(line(count))
		if len(all) != count || all[0] != 0 || all[count-1] != count-1 {
			t.Errorf("Live of a line of %d is %v", count, all)
		}
		l := slices.Repeat(graphOf(number(7)), count)
		checkList(t, "Live", l, Live(l), []int{count - 1})
	}
}

// grown are all graphs of so many nodes, of a number, its other sides, and products.
func grown(count int) [][]api.Node {
	return sample.Grown(nil, count, func(node int) []api.Node {
		choice := graphOf(number(1))
		for a := range node {
			choice = append(choice, of(api.ONeg, a))
			for b := range node {
				choice = append(choice, of(api.OMul, a, b))
			}
		}
		return choice
	})
}

// usesOf is Uses, by the promise's words.
func usesOf(l []api.Node, node int) []int {
	var all []int
	for user, n := range l {
		for _, arg := range n.Args {
			if arg == node {
				all = append(all, user)
			}
		}
	}
	return all
}

// liveOf is Live, by the promise's words: the last node, and all that it is reckoned of, and they are.
func liveOf(l []api.Node) []int {
	var reckonedOf func(node int) []int
	reckonedOf = func(node int) []int {
		all := []int{node}
		for _, arg := range l[node].Args {
			all = append(all, reckonedOf(arg)...)
		}
		return all
	}
	all := reckonedOf(len(l) - 1)
	slices.Sort(all)
	return slices.Compact(all)
}

// P10.3, P10.4: all graphs of up to five nodes.
func TestAll(t *testing.T) {
	for count := 1; count <= 5; count++ {
		for _, l := range grown(count) {
			checkRight(t, l)
			live := Live(l)
			checkList(t, "Live", l, live, liveOf(l))
			if !slices.Contains(live, len(l)-1) {
				t.Errorf("the last node of %v is not live", l)
			}
			for node := range l {
				users := Uses(l, node)
				checkList(t, "Uses", l, users, usesOf(l, node))
				if slices.ContainsFunc(users, func(user int) bool { return user <= node || user >= len(l) }) {
					t.Errorf("%v uses node %d of %v, which is to stand ahead", users, node, l)
				}
				used := slices.ContainsFunc(users, func(user int) bool { return slices.Contains(live, user) })
				if slices.Contains(live, node) != (used || node == len(l)-1) {
					t.Errorf("node %d of %v: live are %v, it is used by %v", node, l, live, users)
				}
			}
		}
	}
}

// A graph whose nodes are each reckoned of the one ahead, twice, is gone through once a node, not once a way.
func TestLiveWays(t *testing.T) {
	l := graphOf(number(1))
	for node := range api.MaxNodes - 1 {
		l = append(l, of(api.OAdd, node, node))
	}
	for range 10000 {
		if got := Live(l); len(got) != api.MaxNodes {
			t.Fatalf("Live is %v", got)
		}
	}
}

// R4: what is handed in is left as it was, its spare room too, and shares nothing with what is answered.
func TestMemory(t *testing.T) {
	given, args := []int{2, 3, 7, 7}, []int{0, 0, 9, 9}
	all := graphOf(with(of(api.OInput), given[:2]...), of(api.OAdd, args[:2]...), param(4), of(api.OMul, 1, 2), of(api.OMax))
	none := graphOf(with(of(api.OInput), given[:0]...))
	before := fmt.Sprint(all, given, args)
	for range 2 {
		l := all[:4]
		s, is := Inputs(l)
		empty, _ := Inputs(none)
		answers := [][]int{s, empty, Params(l), Uses(l, 0), Uses(l, 0), Uses(l, 2), Live(l), Live(l)}
		wants := [][]int{{2, 3}, {}, {4}, {1, 1}, {1, 1}, {3}, {0, 1, 2, 3}, {0, 1, 2, 3}}
		for i, answer := range answers {
			checkList(t, "answer", l, answer, wants[i])
			sample.Overwrite(answer)
		}
		if !is || !Check(l) {
			t.Errorf("%v may not be, or is given nothing", l)
		}
		if after := fmt.Sprint(all, given, args); after != before {
			t.Errorf("what was handed in is now %s, not %s", after, before)
		}
	}
}
