// Package shape tells what belongs to a closed row of straight lines.
package shape

import "outline/api"

// MayBe tells whether shapes can be written and filled: each has points, and all points lie where the greatest bitmap has some.
func MayBe(l []api.Shape) bool {
	for i := 0; i < len(l); i++ {
		if len(l[i].Points) == 0 || !areWithin(l[i].Points) {
			return false
		}
	}
	return true
}

func areWithin(points []api.Point) bool {
	for i := 0; i < len(points); i++ {
		p := points[i]
		if p.X < 0 || p.X > api.MaxSide || p.Y < 0 || p.Y > api.MaxSide {
			return false
		}
	}
	return true
}

// Twice answers twice the area that the points go round, above 0 if it lies on the left.
func Twice(points []api.Point) int {
	if len(points) == 0 {
		return 0
	}
	sum := 0
	from := points[len(points)-1]
	for i := 0; i < len(points); i++ {
		to := points[i]
		sum += from.Y*to.X - from.X*to.Y
		from = to
	}
	return sum
}

// Winding answers how many times the points go round the middle of pixel (x, y), with it on the left.
func Winding(points []api.Point, x int, y int) int {
	if len(points) == 0 {
		return 0
	}
	sum := 0
	from := points[len(points)-1]
	for i := 0; i < len(points); i++ {
		to := points[i]
		sum += windingOf(from, to, x, y)
		from = to
	}
	return sum
}

// windingOf answers what one line adds to the winding number.
func windingOf(from api.Point, to api.Point, x int, y int) int {
	if !reaches(from, to, y) || toTheRight(from, to, x, y) <= 0 {
		return 0
	}
	if to.Y < from.Y {
		return 1
	}
	return -1
}

// GoesThrough tells whether the line goes through the middle of pixel (x, y).
func GoesThrough(from api.Point, to api.Point, x int, y int) bool {
	return reaches(from, to, y) && toTheRight(from, to, x, y) == 0
}

// reaches tells whether the line passes at the height of the middles of row y. It neither ends nor lies there, as points lie between the rows.
func reaches(from api.Point, to api.Point, y int) bool {
	return (from.Y <= y) != (to.Y <= y)
}

// toTheRight is above 0 if the line, which reaches row y, passes to the right of the middle of pixel (x, y), below 0 if to the left, and 0 if through it.
//
// It is how far to the right, but twice that, as middles lie half a pixel on, and times the line's height, so that there is nothing to divide.
func toTheRight(from api.Point, to api.Point, x int, y int) int {
	far := (2*(from.X-x)-1)*(to.Y-from.Y) + (2*(y-from.Y)+1)*(to.X-from.X)
	if to.Y < from.Y {
		return -far
	}
	return far
}
