package sample

import (
	"slices"

	"fuller/api"
)

// Grown are all graphs of so many nodes behind what stands ahead, each of the choice that its place has.
func Grown(ahead []api.Node, count int, choice func(node int) []api.Node) [][]api.Node {
	all := [][]api.Node{ahead}
	for range count {
		var longer [][]api.Node
		for _, l := range all {
			for _, n := range choice(len(l)) {
				longer = append(longer, append(slices.Clone(l), n))
			}
		}
		all = longer
	}
	return all
}

// WrongGraphs are graphs that may not be, in each way: too few nodes, or too many, or one that may not be, or does not go with another one.
func WrongGraphs() [][]api.Node {
	all := slices.Concat(wrongCounts(), wrongOps(), wrongPlaces(), unlikeShapes())
	for _, l := range Ops() {
		for _, op := range l {
			all = slices.Concat(all, wrongNums(op), wrongArgs(op), wrongAhead(op))
		}
	}
	return all
}

// wrongCounts have too few nodes, or too many.
func wrongCounts() [][]api.Node {
	all := [][]api.Node{nil, {}, Line(3)[:0]}
	for _, count := range []int{25, 26, 48, 255, 256, 257, 256 + 3, 100000} {
		all = append(all, Line(count), slices.Repeat(Graph(Number(7)), count))
	}
	return all
}

// wrongOps have a node of an op that is none, alone and behind others.
func wrongOps() [][]api.Node {
	var all [][]api.Node
	for _, op := range WrongOps() {
		for _, args := range [][]int{nil, {0}, {0, 1}, {0, 1, 2}} {
			for _, nums := range [][]int{nil, {0}, {1}, {0, 1}, {0, 1, 2}} {
				n := With(Node(op, args...), nums...)
				all = append(all, Graph(n), append(Three(), n))
			}
		}
	}
	return all
}

// wrongPlaces have a node that may not be at each place of the longest graph, whether the last node hangs on it or not.
func wrongPlaces() [][]api.Node {
	var all [][]api.Node
	for _, l := range [][]api.Node{Line(api.MaxNodes), slices.Repeat(Graph(Number(7)), api.MaxNodes)} {
		for place := range l {
			for _, wrong := range []api.Node{
				{}, Node(api.OConst), With(Node(api.OConst, 0), 1), Param(8), Param(-1), Param(0, 17), Input(0), Node(4), Node(api.ONeg), Node(api.ONeg, place),
				Node(api.OAdd, place, 0), Node(api.OAdd, 0, place), Node(api.OTurn, -1), With(Node(api.ONeg, 0), 1), With(Node(api.OReshape, 0), 65),
			} {
				changed := slices.Clone(l)
				changed[place] = wrong
				all = append(all, changed)
			}
		}
	}
	return all
}

// unlikeShapes have what is given, or one parameter, of two shapes.
func unlikeShapes() [][]api.Node {
	var all [][]api.Node
	shapes := append(Shapes(1, 2, 3, 6), []int{})
	for _, alike := range []func(s ...int) api.Node{Input, func(s ...int) api.Node { return Param(3, s...) }} {
		for _, a := range shapes {
			for _, b := range shapes {
				if !slices.Equal(a, b) {
					all = append(all, Graph(alike(a...), alike(b...)))
				}
			}
		}
		for place := range api.MaxNodes {
			for _, s := range [][]int{{3, 2}, {2}, {6}, {2, 3, 1}, {1, 2, 3}, {}} {
				l := slices.Repeat(Graph(alike(2, 3)), api.MaxNodes)
				l[place] = alike(s...)
				all = append(all, l)
			}
		}
	}
	return all
}

// wrongNums have a node of an op with numbers that are none of it, alone, if it is reckoned of no other, and behind others.
func wrongNums(op int) [][]api.Node {
	var all [][]api.Node
	for _, nums := range WrongNums(op) {
		n := With(RightNode(op), nums...)
		all = append(all, append(Three(), n))
		if len(n.Args) == 0 {
			all = append(all, Graph(n))
		}
	}
	return all
}

// wrongArgs have a node of an op with too few nodes that it is reckoned of, or too many.
func wrongArgs(op int) [][]api.Node {
	var all [][]api.Node
	n := RightNode(op)
	count := len(n.Args)
	for _, args := range append(Lists(4, 0, 1, 2), []int{}, make([]int, 255), make([]int, 256), make([]int, 256+count), make([]int, 100000)) {
		if len(args) != count {
			n.Args = args
			all = append(all, append(Three(), n))
		}
	}
	return all
}

// wrongAhead have a node of an op that is reckoned of one that is not ahead of it: itself, ones behind, and none at all.
func wrongAhead(op int) [][]api.Node {
	var all [][]api.Node
	for place := range RightNode(op).Args {
		for _, wrong := range []int{Least, -1 << 32, -256, -3, -2, -1, 3, 4, 5, 23, 24, 255, 256, 1 << 32, 1<<32 + 1, Most} {
			n := RightNode(op)
			n.Args[place] = wrong
			all = append(all, append(Three(), n), append(Three(), n, Number(1), Number(2)))
		}
	}
	// Right as it is, it is not behind what it is reckoned of.
	for count := range len(RightNode(op).Args) {
		l := append(Three()[:count:count], RightNode(op))
		all = append(all, l, slices.Concat(l, Three()))
	}
	return all
}
