package sample

import "fuller/api"

// Ahead are nodes that have no error, and of which input, and of which parameters.
func Ahead() ([]api.Node, api.Tensor, []api.Tensor) {
	l := Graph(Input(2), Number(0), Number(-2), Number(Least), Param(1, 2), Param(2), With(Node(api.OReshape, 4), 1, 2), With(Node(api.OReshape, 4), 2, 1))
	return l, Row(api.One, 2*api.One), Tensors(Row(api.One), Row(Most, Most), Cell(1), Row(1), api.Tensor{}, Row(1, 2), Of([]int{2}, 1))
}

// Failure is a node that has an error behind those that Ahead tells, and which one.
type Failure struct {
	N   api.Node
	Err api.Errno
}

// Failures are some of each error.
func Failures() []Failure {
	return []Failure{
		{Node(api.ODiv, 0, 1), api.ErrZero}, {Node(api.OSqrt, 2), api.ErrNeg}, {Node(api.OAdd, 4, 5), api.ErrOver}, {Node(api.OSub, 2, 4), api.ErrOver}, {Node(api.OMul, 4, 4), api.ErrOver}, {Node(api.ODiv, 4, 5), api.ErrOver}, {Node(api.ONeg, 3), api.ErrOver},
		{Node(api.OPow, 4), api.ErrOver}, {Node(api.OMatmul, 6, 7), api.ErrOver}, {With(Node(api.OSum, 4), 0), api.ErrOver}, {With(Node(api.OMean, 4), 0), api.ErrOver},
		{Param(0, 2), api.ErrInput}, {Param(3, 1, 1), api.ErrInput}, {Param(4, 2), api.ErrInput}, {Param(5, 2, 1), api.ErrInput}, {Param(6, 2), api.ErrInput}, {Param(7), api.ErrInput},
	}
}
