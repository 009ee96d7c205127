// Package cycles walks round black and white, along the sides where they meet (P6, P7).
package cycles

import (
	"outline/api"
	"outline/bitmap"
	"outline/shape"
)

const (
	corners = api.MaxSide + 1 // the points of the longest row
	sides   = corners * corners * ways
)

// walker goes along the sides of a bitmap, and on each of them once.
type walker struct {
	b     api.Bitmap
	o     api.Options
	taken [sides]bool
}

// Find answers all cycles of b, in the order of their first points.
//
// A cycle is walked from the first of its points that the loops come to, row by row: so the order is as it must be without sorting, and each cycle begins where it must.
func Find(b api.Bitmap, o api.Options) ([]api.Shape, api.Errno) {
	if !mayBe(b, o) {
		return nil, api.ErrArg
	}
	w := walker{b: b, o: o}
	var l []api.Shape
	for y := 0; y <= b.H; y++ {
		for x := 0; x <= b.W; x++ {
			points := w.walkFrom(api.Point{X: x, Y: y})
			if len(points) > 0 {
				twice := shape.Twice(points)
				l = append(l, api.Shape{Points: points, Twice: twice})
			}
		}
	}
	return l, api.OK
}

func mayBe(b api.Bitmap, o api.Options) bool {
	if o.Policy < api.Join || o.Policy > api.Drawn {
		return false
	}
	if o.Speckle < 0 || o.Speckle > api.MaxSide*api.MaxSide {
		return false
	}
	return bitmap.IsOne(b)
}

// walkFrom answers the points of the cycle whose first point p is, or none.
//
// From a first point no side goes up or to the left, as that would lead to a point ahead of it. And two do not go down and to the right: the pixel between them would be black for the one and white for the other.
func (w *walker) walkFrom(p api.Point) []api.Point {
	points := w.walk(side{from: p, way: down})
	if len(points) > 0 {
		return points
	}
	return w.walk(side{from: p, way: right})
}

// walk answers where the sides begin, from s on till one is back.
func (w *walker) walk(s side) []api.Point {
	var points []api.Point
	for w.take(s) {
		points = append(points, s.from)
		s = w.next(s)
	}
	return points
}

// take tells whether s is a side that one has not been on. There are only so many to be taken, so every walk ends.
func (w *walker) take(s side) bool {
	n := (s.from.Y*corners+s.from.X)*ways + s.way
	if n < 0 || n >= sides || w.taken[n] || !isSide(w.b, s) {
		return false
	}
	w.taken[n] = true
	return true
}

// next answers the side on which one walks on behind s. Where there is but one, it is found in either order.
func (w *walker) next(s side) side {
	p := end(s)
	onward := side{from: p, way: s.way}
	near := side{from: p, way: leftOf(s.way)}
	far := side{from: p, way: rightOf(s.way)}
	if joins(w.b, w.o, p) {
		near, far = far, near
	}
	if isSide(w.b, near) {
		return near
	}
	if isSide(w.b, onward) {
		return onward
	}
	return far
}
