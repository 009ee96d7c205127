// Package polygons stands for cycles by as few straight lines as can be (P8 to P10).
package polygons

import (
	"outline/api"
	"outline/cycles"
	"outline/shape"
)

// Find answers the polygons of all cycles of b that are no speckles, in the order of the cycles.
func Find(b api.Bitmap, o api.Options) ([]api.Shape, api.Errno) {
	all, errno := cycles.Find(b, o)
	if errno != api.OK {
		return nil, errno
	}
	var l []api.Shape
	for i := 0; i < len(all); i++ {
		if !isSpeckle(all[i], o.Speckle) {
			points := corners(all[i].Points)
			twice := shape.Twice(points)
			l = append(l, api.Shape{Points: points, Twice: twice})
		}
	}
	return l, api.OK
}

// isSpeckle is asked of the cycle, so that no polygon is made for nothing.
func isSpeckle(cycle api.Shape, speckle int) bool {
	return size(cycle.Twice) <= 2*speckle
}

// size answers n without its sign.
func size(n int) int {
	if n < 0 {
		return -n
	}
	return n
}
