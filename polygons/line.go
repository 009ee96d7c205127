package polygons

import (
	"outline/api"
	"outline/shape"
)

// fits tells whether one line from the first of the points to the last may stand for the sides between them: the middle of no pixel changes sides.
//
// Only pixels within the points' bounds are looked at, as the shape goes round no other. For one side there are none, so that it fits always.
func fits(points []api.Point) bool {
	if len(points) == 0 {
		return false
	}
	first := points[0]
	last := points[len(points)-1]
	low, high := bounds(points)
	for y := low.Y; y < high.Y; y++ {
		for x := low.X; x < high.X; x++ {
			if shape.GoesThrough(last, first, x, y) {
				return false
			}
			if shape.Winding(points, x, y) != 0 {
				return false
			}
		}
	}
	return true
}

// bounds answers the corners, at the top left and at the bottom right, of the rectangle that holds the points.
func bounds(points []api.Point) (api.Point, api.Point) {
	if len(points) == 0 {
		return api.Point{}, api.Point{}
	}
	low := points[0]
	high := points[0]
	for i := 1; i < len(points); i++ {
		p := points[i]
		if p.X < low.X {
			low.X = p.X
		}
		if p.Y < low.Y {
			low.Y = p.Y
		}
		if p.X > high.X {
			high.X = p.X
		}
		if p.Y > high.Y {
			high.Y = p.Y
		}
	}
	return low, high
}

// cost answers how far the points are off the line from the first of them to the last, all together, times its length.
func cost(points []api.Point) int {
	if len(points) == 0 {
		return 0
	}
	first := points[0]
	last := points[len(points)-1]
	sum := 0
	for i := 0; i < len(points); i++ {
		p := points[i]
		off := (last.X-first.X)*(p.Y-first.Y) - (last.Y-first.Y)*(p.X-first.X)
		sum += size(off)
	}
	return sum
}
