package draft

import (
	"terrier/api"
	"terrier/face"
	"terrier/plan"
)

// outside is the face of the first region.
const outside = 0

// Left: the face at the left of way; 0 of what is no way.
func Left(p api.Plan, way int) int {
	if e, along := plan.Edge(p, way); along {
		return e.Left
	}
	e, _ := plan.Edge(p, -way)
	return e.Right
}

// FaceOf: the face of r, as its outer ring tells it. The first region alone has none.
func FaceOf(p api.Plan, r face.Region) int {
	if len(r.Outer) == 0 {
		return outside
	}
	return Left(p, r.Outer[0])
}

// FaceAt: the face in which q lies; false, if q is a node or on an edge.
func FaceAt(p api.Plan, q api.P) (int, bool) {
	region, free := face.At(p, q)
	if !free {
		return 0, false
	}
	return FaceOf(p, face.Regions(p)[region]), true
}
