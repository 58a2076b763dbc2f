package sample

import (
	"slices"

	"fuller/api"
)

// Cell is a tensor of no sides.
func Cell(n int) api.Tensor {
	return Of(nil, n)
}

// Table is a tensor of so many rows, and columns.
func Table(rows, columns int, data ...int) api.Tensor {
	return Of([]int{rows, columns}, data...)
}

// Tensors are a list of them.
func Tensors(l ...api.Tensor) []api.Tensor {
	return l
}

// Outside is what is given, and the parameters: all of one shape, and each of other numbers.
func Outside() (api.Tensor, []api.Tensor) {
	var params []api.Tensor
	for p := range api.MaxParams {
		params = append(params, Counted([]int{2, 3}, 100*p))
	}
	return Table(2, 3, Most, Least, 0, api.One, -api.One, 7), params
}

// Fit is a node that fits to some tensors, and what it is reckoned to.
type Fit struct {
	N    api.Node
	Args []api.Tensor
	Want api.Tensor
}

// Fits are one of each op, of which Outside tells what is given, and the parameters.
func Fits() []Fit {
	const one = api.One
	in, params := Outside()
	x := Table(2, 3, one, 2*one, 3*one, 4*one, 5*one, 6*one)
	y := Table(2, 3, 2*one, -one, one, one/2, 0, -3*one)
	return []Fit{
		{Input(2, 3), nil, in},
		{Param(5, 2, 3), nil, params[5]},
		{Number(-4), nil, Cell(-4)},
		{Node(api.OAdd), Tensors(x, y), Table(2, 3, 3*one, one, 4*one, 4*one+one/2, 5*one, 3*one)},
		{Node(api.OSub), Tensors(x, y), Table(2, 3, -one, 3*one, 2*one, 3*one+one/2, 5*one, 9*one)},
		{Node(api.OMul), Tensors(x, y), Table(2, 3, 2*one, -2*one, 3*one, 2*one, 0, -18*one)},
		{Node(api.ODiv), Tensors(y, x), Table(2, 3, 2*one, -one/2, 1431655765, one/8, 0, -one/2)},
		{Node(api.ONeg), Tensors(y), Table(2, 3, -2*one, one, -one, -one/2, 0, 3*one)},
		{Node(api.ORelu), Tensors(y), Table(2, 3, 2*one, 0, one, one/2, 0, 0)},
		{Node(api.OPow), Tensors(y), Table(2, 3, 4*one, one/2, 2*one, one+one/2, one, one/8)},
		{Node(api.OSqrt), Tensors(x), Table(2, 3, one, 6074000999, 7439101573, 2*one, 9603838834, 10520478337)},
		{Node(api.OMatmul), Tensors(x, Table(3, 1, 2*one, -one, one)), Table(2, 1, 3*one, 9*one)},
		{With(Node(api.OReshape), 3, 2), Tensors(y), Table(3, 2, y.Data...)},
		{Node(api.OTurn), Tensors(y), Table(3, 2, 2*one, one/2, -one, 0, one, -3*one)},
		{With(Node(api.OSlice), 1, 1, 3), Tensors(y), Table(2, 2, -one, one, 0, -3*one)},
		{With(Node(api.OJoin), 1), Tensors(x, y), Table(2, 6, one, 2*one, 3*one, 2*one, -one, one, 4*one, 5*one, 6*one, one/2, 0, -3*one)},
		{With(Node(api.OSum), 1), Tensors(y), Row(2*one, -3*one+one/2)},
		{With(Node(api.OMean), 0), Tensors(x), Row(2*one+one/2, 3*one+one/2, 4*one+one/2)},
		{With(Node(api.OMax), 1), Tensors(y), Row(2*one, one/2)},
	}
}

// TensorsOf are all lists of so many tensors of some shapes, with small numbers, and with great ones.
func TensorsOf(count int) [][]api.Tensor {
	var all []api.Tensor
	for _, s := range Shapes(1, 2, 16) {
		all = append(all, Counted(s, api.One-2), Filled(s, 3*api.One, -api.One, 0), Filled(s, 1, Most, Least))
	}
	return slices.DeleteFunc(Lists(count, all...), func(l []api.Tensor) bool { return len(l) != count })
}

// ShapesOf are the shapes of tensors.
func ShapesOf(l []api.Tensor) [][]int {
	var all [][]int
	for _, x := range l {
		all = append(all, x.Shape)
	}
	return all
}

// ListsOf are the shape and the numbers of each tensor.
func ListsOf(l []api.Tensor) [][]int {
	var all [][]int
	for _, x := range l {
		all = append(all, x.Shape, x.Data)
	}
	return all
}

// Same tells whether a and b are one tensor.
func Same(a, b api.Tensor) bool {
	return slices.Equal(a.Shape, b.Shape) && slices.Equal(a.Data, b.Data)
}

// Roomy is t, in new lists that have spare room, and these lists with it.
func Roomy(t api.Tensor) (api.Tensor, [][]int) {
	s, data := append(slices.Clone(t.Shape), 7, 7), append(slices.Clone(t.Data), 9, 9)
	return Of(s[:len(t.Shape)], data[:len(t.Data)]...), [][]int{s, data}
}
