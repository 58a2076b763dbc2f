package sample

import (
	"slices"

	"fuller/api"
)

// Node is a node of others.
func Node(op int, args ...int) api.Node {
	return api.Node{Op: op, Args: args}
}

// With is that node with numbers.
func With(n api.Node, nums ...int) api.Node {
	n.Nums = nums
	return n
}

// Input is what is given, of a shape.
func Input(s ...int) api.Node {
	return With(Node(api.OInput), s...)
}

// Param is a parameter, of a shape.
func Param(p int, s ...int) api.Node {
	return With(Node(api.OParam), append([]int{p}, s...)...)
}

// Number is a number.
func Number(n int) api.Node {
	return With(Node(api.OConst), n)
}

// Graph is a list of nodes.
func Graph(l ...api.Node) []api.Node {
	return l
}

// Three are nodes to stand ahead, none of which names what is given, or a parameter.
func Three() []api.Node {
	return Graph(Number(-5), Node(api.OTurn, 0), Number(4))
}

// Line is so many nodes, each reckoned of the one ahead of it.
func Line(count int) []api.Node {
	l := Graph(Number(1))
	for node := 1; node < count; node++ {
		l = append(l, Node(api.ONeg, node-1))
	}
	return l
}

// Ops are all that there are, by of how many nodes they are reckoned.
func Ops() [3][]int {
	return [3][]int{
		{api.OInput, api.OParam, api.OConst},
		{api.ONeg, api.ORelu, api.OPow, api.OSqrt, api.OReshape, api.OTurn, api.OSlice, api.OSum, api.OMean, api.OMax},
		{api.OAdd, api.OSub, api.OMul, api.ODiv, api.OMatmul, api.OJoin},
	}
}

// RightNode is a node of an op, of the first nodes there are, that may be.
func RightNode(op int) api.Node {
	var args []int
	for count, l := range Ops() {
		if slices.Contains(l, op) {
			args = []int{0, 1}[:count]
		}
	}
	n := Node(op, args...)
	switch op {
	case api.OInput, api.OReshape:
		n.Nums = []int{2, 3}
	case api.OParam:
		n.Nums = []int{5, 2, 3}
	case api.OSlice:
		n.Nums = []int{0, 1, 2}
	case api.OConst, api.OJoin, api.OSum, api.OMean, api.OMax:
		n.Nums = []int{0}
	}
	return n
}

// WrongOps are none: beside those that there are, and far off, some of which wrap round to one.
func WrongOps() []int {
	all := []int{Least, Least + 1, -1 << 32, 1 << 32, 1<<32 + api.OInput, 1<<32 + api.OAdd, 256 + api.OConst, 1<<16 + api.ONeg, 1<<62 + 1, Most - 1, Most}
	known := slices.Concat(Ops()[0], Ops()[1], Ops()[2])
	for op := -60; op <= 300; op++ {
		if !slices.Contains(known, op) {
			all = append(all, op)
		}
	}
	return all
}

// RightNums are lists that are Nums of an op.
func RightNums(op int) [][]int {
	ends := []int{Least, -1, 0, 1, 2, 16, 17, 1 << 32, Most}
	var all [][]int
	switch op {
	case api.OInput, api.OReshape:
		return append(Shapes(1, 2, 3, 4, 8, 15, 16), []int{})
	case api.OParam:
		for p := range api.MaxParams {
			for _, s := range Shapes(1, 2, 3, 4, 8, 15, 16) {
				all = append(all, append([]int{p}, s...))
			}
		}
		return all
	case api.OSlice:
		return slices.DeleteFunc(Lists(3, ends...), func(l []int) bool { return len(l) != 3 })
	case api.OConst, api.OJoin, api.OSum, api.OMean, api.OMax:
		return Lists(1, ends...)[1:]
	}
	return [][]int{nil, {}}
}

// WrongNums are lists that are no Nums of an op.
func WrongNums(op int) [][]int {
	short := Lists(5, Least, -1, 0, 1, 2)
	switch op {
	case api.OInput, api.OReshape:
		return append(WrongShapes(), make([]int, 100000), slices.Repeat([]int{1}, 100000), []int{5, 1, 1, 1})
	case api.OParam:
		return wrongParams()
	case api.OSlice:
		return append(slices.DeleteFunc(short, func(l []int) bool { return len(l) == 3 }), make([]int, 100000))
	case api.OConst, api.OJoin, api.OSum, api.OMean, api.OMax:
		return append(slices.DeleteFunc(short, func(l []int) bool { return len(l) == 1 }), make([]int, 100000))
	}
	return append(short[1:], make([]int, 100000))
}

// wrongParams are lists that are no Nums of a parameter: none of it, or none of a shape.
func wrongParams() [][]int {
	all := [][]int{nil, {}, make([]int, 100000), {1, 1, 1, 1, 1}}
	for _, s := range WrongShapes() {
		for p := range api.MaxParams {
			all = append(all, append([]int{p}, s...))
		}
	}
	for _, s := range [][]int{nil, {1}, {2, 3}, {4, 4, 4}} {
		for _, p := range []int{Least, -1 << 32, -8, -1, 8, 9, 16, 255, 256, 1 << 32, 1<<32 + 1, Most} {
			all = append(all, append([]int{p}, s...))
		}
	}
	return all
}
