// Package words takes what the document says of slopes as it stands, by recursion, for the layers' tests to be held against; and has the graphs that they go through.
package words

import (
	"slices"

	"fuller/api"
	"fuller/elem"
	"fuller/eval"
	"fuller/graph"
	"fuller/sample"
	"fuller/tensor"
	"fuller/vjp"
)

// Reckoned is a graph, and what its nodes came to.
type Reckoned struct {
	L    []api.Node
	Vals []api.Tensor
}

// Down are the live nodes from a place on, the last one ahead.
func (r Reckoned) Down(from int) []int {
	live := slices.DeleteFunc(graph.Live(r.L), func(node int) bool { return node < from })
	slices.Reverse(live)
	return live
}

// Hang is what hangs on a node, of those that use it from a place on; empty, if none does.
func (r Reckoned) Hang(node, from int) (api.Tensor, api.Errno) {
	if node == len(r.L)-1 {
		return tensor.Full(r.Vals[node].Shape, api.One)
	}
	var parts []api.Tensor
	for _, user := range r.Down(from) {
		if !slices.Contains(r.L[user].Args, node) {
			continue
		}
		back, err := r.back(user)
		if err != api.OK {
			return api.Tensor{}, err
		}
		for place, arg := range r.L[user].Args {
			if arg == node {
				parts = append(parts, back[place])
			}
		}
	}
	return total(parts)
}

// Slopes are those of a parameter, of the nodes that name it from a place on; empty, if none does.
func (r Reckoned) Slopes(p, from int) (api.Tensor, api.Errno) {
	var parts []api.Tensor
	for _, node := range r.Down(from) {
		if r.L[node].Op == api.OParam && r.L[node].Nums[0] == p {
			g, err := r.Hang(node, node+1)
			if err != api.OK {
				return api.Tensor{}, err
			}
			parts = append(parts, g)
		}
	}
	return total(parts)
}

// Fails is why a node can't be turned back, or what it is turned back to can't be added.
func (r Reckoned) Fails(node int) api.Errno {
	if r.L[node].Op == api.OParam {
		_, err := r.Slopes(r.L[node].Nums[0], node)
		return err
	}
	if _, err := r.back(node); err != api.OK {
		return err
	}
	for _, arg := range r.L[node].Args {
		if _, err := r.Hang(arg, node); err != api.OK {
			return err
		}
	}
	return api.OK
}

// back is what a node is turned back to.
func (r Reckoned) back(node int) ([]api.Tensor, api.Errno) {
	g, err := r.Hang(node, node+1)
	if err != api.OK {
		return nil, err
	}
	var all []api.Tensor
	for _, arg := range r.L[node].Args {
		all = append(all, r.Vals[arg])
	}
	return vjp.Back(r.L[node], all, r.Vals[node], g)
}

// total is what tensors come to, each added behind those ahead of it; empty of none.
func total(all []api.Tensor) (api.Tensor, api.Errno) {
	if len(all) == 0 {
		return api.Tensor{}, api.OK
	}
	sum := all[0]
	for _, x := range all[1:] {
		var err api.Errno
		if sum, err = elem.Two(api.OAdd, sum, x); err != api.OK {
			return api.Tensor{}, err
		}
	}
	return sum, api.OK
}

// Slopes are what a job comes to: the slopes of each parameter, the loss, and the first node that has an error, and which one.
func Slopes(c sample.Job) ([]api.Tensor, int, int, api.Errno) {
	vals, node, err := eval.All(c.L, c.In, c.Params)
	if err != api.OK {
		return nil, 0, node, err
	}
	last := len(c.L) - 1
	if len(vals[last].Data) != 1 {
		return nil, 0, last, api.ErrLoss
	}
	r := Reckoned{c.L, vals}
	for _, node := range r.Down(0) {
		if err := r.Fails(node); err != api.OK {
			return nil, 0, node, err
		}
	}
	all := make([]api.Tensor, api.MaxParams)
	for node, n := range c.L {
		if n.Op != api.OParam {
			continue
		}
		p := n.Nums[0]
		all[p], _ = r.Slopes(p, 0)
		if len(all[p].Data) == 0 {
			all[p], _ = tensor.Full(vals[node].Shape, 0)
		}
	}
	return all, vals[last].Data[0], -1, api.OK
}
