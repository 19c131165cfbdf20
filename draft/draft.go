// Package draft makes the plans that edits answer: in memory of their own, with nodes and edges put in by their IDs and taken out; and it tells which of the faces that a plan has is where. Layers 17 and above lean on it.
package draft

import (
	"slices"

	"terrier/api"
)

// Joined is the Face of a node that an edge has.
const Joined = -1

// Of: the same plan in memory of its own. All that follows is for such a plan, that nobody else holds.
func Of(p api.Plan) api.Plan {
	p.Nodes, p.Edges = slices.Clone(p.Nodes), slices.Clone(p.Edges)
	for i, e := range p.Edges {
		p.Edges[i].Line = slices.Clone(e.Line)
	}
	return p
}

// WithNode: p with n more, ahead of the nodes of greater IDs.
func WithNode(p api.Plan, n api.Node) api.Plan {
	p.Nodes = insert(p.Nodes, n, nodeID)
	return p
}

// WithEdge: p with e more, ahead of the edges of greater IDs.
func WithEdge(p api.Plan, e api.Edge) api.Plan {
	p.Edges = insert(p.Edges, e, edgeID)
	return p
}

func insert[T any](l []T, x T, id func(T) int) []T {
	i := slices.IndexFunc(l, func(y T) bool { return id(y) > id(x) })
	if i < 0 {
		i = len(l)
	}
	return slices.Insert(l, i, x)
}

// WithoutNode: p without its first node of that ID.
func WithoutNode(p api.Plan, id int) api.Plan {
	p.Nodes = remove(p.Nodes, id, nodeID)
	return p
}

// WithoutEdge: p without its first edge of that ID.
func WithoutEdge(p api.Plan, id int) api.Plan {
	p.Edges = remove(p.Edges, id, edgeID)
	return p
}

func remove[T any](l []T, gone int, id func(T) int) []T {
	i := slices.IndexFunc(l, func(x T) bool { return id(x) == gone })
	if i < 0 {
		return l
	}
	return slices.Delete(l, i, i+1)
}

// NodeIDs: those of p's nodes, as they stand.
func NodeIDs(p api.Plan) []int {
	return ids(p.Nodes, nodeID)
}

// EdgeIDs: those of p's edges, as they stand.
func EdgeIDs(p api.Plan) []int {
	return ids(p.Edges, edgeID)
}

func ids[T any](l []T, id func(T) int) []int {
	all := make([]int, len(l))
	for i, x := range l {
		all[i] = id(x)
	}
	return all
}

func nodeID(n api.Node) int { return n.ID }

func edgeID(e api.Edge) int { return e.ID }
