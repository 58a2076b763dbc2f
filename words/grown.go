package words

import (
	"slices"

	"fuller/api"
	"fuller/infer"
	"fuller/sample"
)

// GrownNumbers are all graphs of up to so many nodes, of numbers alone, behind what is given and a parameter: each of one of some numbers.
func GrownNumbers(long int) []sample.Job {
	const one = api.One
	given := []int{2 * one, 1, 0, one / 2, 1 << 47, 3, -1 << 33}
	held := []int{one, 0, 3 * one, 1 << 48, 1 << 20, -one}
	choice := func(node int) []api.Node {
		all := sample.Graph(sample.Param(1), sample.Param(0))
		for a := range node {
			all = append(all, sample.Node(api.OSqrt, a))
			for b := range node {
				all = append(all, sample.Node(api.OSub, a, b), sample.Node(api.OMul, a, b), sample.Node(api.ODiv, a, b))
			}
		}
		return all
	}
	var all []sample.Job
	at := 0
	for count := range long + 1 {
		for _, l := range sample.Grown(sample.Graph(sample.Input(), sample.Param(1)), count, choice) {
			at++
			params := sample.Tensors(sample.Cell(5*one), sample.Cell(held[at%len(held)]))
			all = append(all, sample.Job{L: l, In: sample.Cell(given[at%len(given)]), Params: params})
		}
	}
	return all
}

// GrownTables are all graphs of up to two nodes of thirteen kinds behind what is given and a parameter that are tables; as they are, and with their numbers taken together.
func GrownTables() []sample.Job {
	const one = api.One
	of, with := sample.Node, sample.With
	choice := func(node int) []api.Node {
		all := sample.Graph(sample.Param(1, 2, 3), sample.Param(2, 3))
		for a := range node {
			all = append(all, of(api.OTurn, a), of(api.ORelu, a), of(api.OSqrt, a), with(of(api.OSum, a), 0), with(of(api.OMean, a), 0), with(of(api.OMax, a), 0), with(of(api.OSlice, a), 0, 1, 2), with(of(api.OReshape, a), 3, 2))
			for b := range node {
				all = append(all, of(api.OAdd, a, b), of(api.OMul, a, b), of(api.ODiv, a, b), of(api.OMatmul, a, b), with(of(api.OJoin, a, b), 0))
			}
		}
		return all
	}
	ahead := sample.Graph(sample.Input(2, 3), sample.Param(1, 2, 3), sample.Node(api.OTurn, 0))
	in := sample.Table(2, 3, one, -2*one, 3*one, one/2, 5*one, 6*one)
	tables := sample.Tensors(sample.Table(2, 3, 4*one, one, 9*one, 0, 3*one, 2*one), sample.Table(2, 3, -one, 1<<46, 0, 0, one, 1), sample.Table(2, 3, sample.Most, sample.Least, 1, one, -1, 7))
	var all []sample.Job
	for count := range 3 {
		for at, l := range sample.Grown(ahead, count, choice) {
			params := sample.Tensors(api.Tensor{}, tables[at%len(tables)], sample.Row(2*one, one, one/4))
			all = append(all, sample.Job{L: l, In: in, Params: params}, sample.Job{L: Closed(l), In: in, Params: params})
		}
	}
	return all
}

// Closed is l, and nodes behind it that take each side of the last one together; l alone, if it does not fit.
func Closed(l []api.Node) []api.Node {
	longer := slices.Clone(l)
	shapes, _, err := infer.Shapes(l)
	if err != api.OK {
		return longer
	}
	for range shapes[len(l)-1] {
		longer = append(longer, sample.With(sample.Node(api.OSum, len(longer)-1), 0))
	}
	return longer
}
