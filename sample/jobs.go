package sample

import (
	"slices"

	"fuller/api"
)

// Job is a graph, and what it is reckoned of.
type Job struct {
	L      []api.Node
	In     api.Tensor
	Params []api.Tensor
}

// Ends are numbers whose sums are too great in one order, and not in another one.
func Ends() []int {
	return []int{Most, Least, 1, -1, 0}
}

// Threes are all lists of three of them.
func Threes() [][3]int {
	var all [][3]int
	for _, l := range Lists(3, Ends()...) {
		if len(l) == 3 {
			all = append(all, [3]int(l))
		}
	}
	return all
}

// weighed are nodes, each of which is 0, with what the loss, that is 0 too, rises by with each: the products, one a node, and their sums.
func weighed(l []api.Node, nodes, by []int) []api.Node {
	for _, n := range by {
		l = append(l, Number(n))
	}
	first := len(l)
	for place, node := range nodes {
		l = append(l, Node(api.OMul, node, first-len(by)+place))
	}
	for place := 1; place < len(nodes); place++ {
		ahead := len(l) - 1
		if place == 1 {
			ahead = first
		}
		l = append(l, Node(api.OAdd, ahead, first+place))
	}
	return l
}

// UsedBy is a job of one node of the parameter 5, that is used as often as there are numbers, each of which hangs on it: behind it stand the numbers, the products, and their sums.
func UsedBy(by []int) Job {
	return Job{L: weighed(Graph(Param(5)), make([]int, len(by)), by), Params: slices.Repeat(Tensors(Cell(0)), 6)}
}

// NamedBy is a job of as many nodes of the parameter 5 as there are numbers, each of which hangs on one.
func NamedBy(by []int) Job {
	var l []api.Node
	var nodes []int
	for node := range by {
		l, nodes = append(l, Param(5)), append(nodes, node)
	}
	return Job{L: weighed(l, nodes, by), Params: slices.Repeat(Tensors(Cell(0)), 6)}
}

// NamedTwice is a job of two nodes of the parameter 0, the first of which is used twice, by the first number and the last one; numbers are nodes 2 to 4, products 5 to 7.
func NamedTwice(by [3]int) Job {
	return Job{L: weighed(Graph(Param(0), Param(0)), []int{0, 1, 0}, by[:]), Params: Tensors(Cell(0))}
}

// JoinedTwice is a job of one node of the parameter 0, on which the first number hangs by one behind node 3, that it is both Args of, and by which the others hang on it.
func JoinedTwice(by [3]int) Job {
	return Job{
		L:      Graph(Param(0, 1), Input(2), Param(1), With(Node(api.OJoin, 0, 0), 0), Node(api.OMul, 3, 1), With(Node(api.OSum, 4), 0), Node(api.OMul, 0, 2), Node(api.OAdd, 5, 6)),
		In:     Row(by[1:]...),
		Params: Tensors(Row(0), Cell(by[0])),
	}
}

// Both is a job whose node 3 is an op of a parameter twice, and is weighed; behind it the parameter is weighed alone.
func Both(op, ahead, by int) Job {
	return Job{
		L:      Graph(Param(0), Number(ahead), Number(by), Node(op, 0, 0), Node(api.OMul, 3, 2), Node(api.OMul, 0, 1), Node(api.OAdd, 4, 5)),
		Params: Tensors(Cell(0)),
	}
}

// Turnings are nodes, of one that is 0 and of the node 1, that is 1 part, that come to 0, and that can't be turned back; and why not.
func Turnings(node int) []Failure {
	return []Failure{{N: Node(api.OSqrt, node), Err: api.ErrZero}, {N: Node(api.ODiv, node, 1), Err: api.ErrOver}}
}

// Chain is a job of the longest graph, each of whose nodes from 3 on is reckoned of the one ahead of it, but for one that is skipped; some are changed to such a kind of Turnings, whose errors stand beside.
func Chain(changed map[int]int, skipped int) (Job, []api.Errno) {
	l, errs := Graph(Param(1), Number(1), Node(api.OTurn, 0)), make([]api.Errno, api.MaxNodes)
	for node := 3; node < api.MaxNodes; node++ {
		ahead := node - 1
		if ahead == skipped {
			ahead--
		}
		n := Failure{N: Node(api.OTurn, ahead)}
		if kind, is := changed[node]; is {
			n = Turnings(ahead)[kind]
		}
		l, errs[node] = append(l, n.N), n.Err
	}
	return Job{L: l, Params: Tensors(api.Tensor{}, Cell(0))}, errs
}

// apart is the tensor of a shape whose numbers are far from each other, and so are their neighbours.
func apart(s ...int) api.Tensor {
	x := Counted(s, 0)
	for place := range x.Data {
		x.Data[place] = (place*7%13-6)*api.One + api.One/2
	}
	return x
}

// halves is the tensor of a shape whose numbers are One, doubled and halved.
func halves(s ...int) api.Tensor {
	const one = api.One
	return Filled(s, one, -2*one, one/2, 4*one, -one/4)
}

// Even are jobs whose losses rise evenly, or as a square does, with each number of their parameters, as far as those next to them; of halves, so that nothing is floored.
func Even() []Job {
	const one = api.One
	sum := func(node int) api.Node { return With(Node(api.OSum, node), 0) }
	return []Job{
		{L: Graph(Input(2, 3), Param(0, 3, 2), Node(api.OMatmul, 0, 1), Param(1, 2), Node(api.OAdd, 2, 3), Param(3, 2, 2), Node(api.OSub, 4, 5), Node(api.OMul, 6, 6), With(Node(api.OMean, 7), 1), sum(8)),
			In: halves(2, 3), Params: Tensors(apart(3, 2), halves(2), Row(7), halves(2, 2))},
		{L: Graph(Param(0, 2, 3), Node(api.OTurn, 0), With(Node(api.OSlice, 1), 0, 1, 3), Param(2, 1, 2), With(Node(api.OJoin, 2, 3), 0), With(Node(api.OReshape, 4), 6), Node(api.OPow, 5), Node(api.ORelu, 5), Node(api.OMul, 6, 7), With(Node(api.OMax, 5), 0), Node(api.OSub, 8, 9), sum(10)),
			Params: Tensors(apart(2, 3), Row(7), Table(1, 2, 9*one/2, -7*one/2))},
		{L: Graph(Param(0, 2, 1), Param(1, 1, 4), Node(api.OMul, 0, 1), Input(4), Node(api.ODiv, 2, 3), Node(api.OSub, 4, 1), Node(api.ONeg, 5), With(Node(api.OMean, 6), 1), With(Node(api.OMean, 7), 0)),
			In: halves(4), Params: Tensors(apart(2, 1), apart(1, 4))},
		{L: Graph(Param(5, 2, 2), Param(5, 2, 2), Node(api.OTurn, 1), Node(api.OMatmul, 0, 2), Param(4, 1, 2), Node(api.OMatmul, 4, 3), sum(5), With(Node(api.OSlice, 6), 0, 1, 2), Param(5, 2, 2), sum(8), sum(9), Node(api.OMul, 10, 10), Node(api.OAdd, 11, 7)),
			Params: Tensors(Row(1), Row(2), Row(3), Row(4), halves(1, 2), apart(2, 2))},
		{L: Graph(Param(7), Node(api.OMul, 0, 0), Node(api.OAdd, 1, 0), Node(api.OSub, 2, 1), Node(api.OAdd, 3, 3), Node(api.OAdd, 4, 4), Node(api.OAdd, 5, 5), Param(7), Node(api.OMul, 6, 7), Node(api.OSub, 8, 6)),
			Params: append(make([]api.Tensor, 7), Cell(5*one/2))},
	}
}

// Inserted is l with a node put in.
func Inserted(l []api.Node, place int, n api.Node) []api.Node {
	longer := append(slices.Clone(l[:place]), n)
	for _, m := range l[place:] {
		m.Args = slices.Clone(m.Args)
		for i, arg := range m.Args {
			if arg >= place {
				m.Args[i]++
			}
		}
		longer = append(longer, m)
	}
	return longer
}

// Unlive are nodes of those ahead of a place, and of the parameter 6, of three numbers.
func Unlive(l []api.Node, place int) []api.Node {
	all := Graph(Number(5), Param(6, 3))
	for a := range place {
		all = append(all, Node(api.ONeg, a), Node(api.OTurn, a), Node(api.OAdd, a, a), Node(api.OMul, a, 0))
		if l[a].Op == api.OParam || l[a].Op == api.OInput {
			all = append(all, l[a])
		}
	}
	return all
}

// RoomyJob is a job, all of whose lists have spare room, with something in it; and the lists of numbers with that.
func RoomyJob(c Job) (Job, [][]int) {
	var handed [][]int
	long := append(slices.Clone(c.L), Node(99), Node(98))
	for node, n := range c.L {
		named, nums := append(slices.Clone(n.Args), 7, 7), append(slices.Clone(n.Nums), 9, 9)
		long[node].Args, long[node].Nums = named[:len(n.Args)], nums[:len(n.Nums)]
		handed = append(handed, named, nums)
	}
	in, lists := Roomy(c.In)
	params, more := RoomyTensors(c.Params)
	return Job{L: long[:len(c.L)], In: in, Params: params}, slices.Concat(handed, lists, more)
}

// RoomyTensors are tensors in a new list that has spare room, with something in it, and so have their own; and these with it.
func RoomyTensors(l []api.Tensor) ([]api.Tensor, [][]int) {
	var all []api.Tensor
	var handed [][]int
	for _, x := range l {
		x, lists := Roomy(x)
		all, handed = append(all, x), append(handed, lists...)
	}
	all = append(all, Cell(3), Cell(4))
	return all[:len(l)], handed
}
