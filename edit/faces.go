package edit

import (
	"slices"

	"terrier/api"
	"terrier/draft"
	"terrier/face"
	"terrier/plan"
	"terrier/topo"
)

// outside is the face of the first region.
const outside = 0

// around: the face in which added lies; out is p with it. The ways that are in a ring with it went round that face in p, too; if there is none, its nodes stood alone.
func around(p, out api.Plan, added api.Edge) int {
	for _, way := range slices.Concat(plan.Ring(out, added.ID), plan.Ring(out, -added.ID)) {
		if way != added.ID && way != -added.ID {
			return draft.Left(p, way)
		}
	}
	n, _ := plan.Node(p, added.Start)
	return n.Face
}

// regionOf: the one of l that way goes round.
func regionOf(l []face.Region, way int) face.Region {
	i := slices.IndexFunc(l, func(r face.Region) bool { return slices.Contains(waysOf(r), way) })
	if i < 0 {
		return face.Region{}
	}
	return l[i]
}

// waysOf: the ways round r.
func waysOf(r face.Region) []int {
	return slices.Concat(r.Outer, slices.Concat(r.Inner...))
}

// parted: the faces at both sides of an edge that parts f. The left side keeps f, if its outer ring does not have the edge, or else the right one; fresh, neither does, but that what is outside stays so.
func parted(p api.Plan, f int, onLeftOuter, fresh bool) (left, right int) {
	faces := topo.FaceIDs(p)
	unused := topo.Unused(faces)
	switch {
	case fresh && f != outside:
		return unused, topo.Unused(append(faces, unused))
	case onLeftOuter:
		return unused, f
	default:
		return f, unused
	}
}

// paint gives all ways and nodes of r the face f, in a draft.
func paint(out api.Plan, r face.Region, f int) {
	ways := waysOf(r)
	for i := range out.Edges {
		e := &out.Edges[i]
		if slices.Contains(ways, e.ID) {
			e.Left = f
		}
		if slices.Contains(ways, -e.ID) {
			e.Right = f
		}
	}
	for _, id := range r.Nodes {
		stand(out, id, f)
	}
}

// stand lets node id of a draft tell the face f.
func stand(out api.Plan, id, f int) {
	i := slices.IndexFunc(out.Nodes, func(n api.Node) bool { return n.ID == id })
	if i >= 0 {
		out.Nodes[i].Face = f
	}
}

// united: the face of both sides of gone, once it is.
func united(p api.Plan, gone api.Edge, fresh bool) int {
	switch {
	case gone.Left == gone.Right:
		return gone.Left
	case gone.Left == outside || gone.Right == outside:
		return outside
	case fresh:
		return topo.Unused(topo.FaceIDs(p))
	default:
		return min(gone.Left, gone.Right)
	}
}

// rename lets all of a draft that told a face of gone tell f.
func rename(out api.Plan, gone api.Edge, f int) {
	become := func(old *int) {
		if *old == gone.Left || *old == gone.Right {
			*old = f
		}
	}
	for i := range out.Nodes {
		become(&out.Nodes[i].Face)
	}
	for i := range out.Edges {
		become(&out.Edges[i].Left)
		become(&out.Edges[i].Right)
	}
}
