package cycles

import (
	"outline/api"
	"outline/bitmap"
)

// The ways that a side can go; each is a turn to the left from the one ahead of it.
const (
	down  = 0
	right = 1
	up    = 2
	left  = 3
	ways  = 4
)

// side is a pixel's length of line, from a point in one of the ways. Whether black and white meet there, isSide tells.
type side struct {
	from api.Point
	way  int
}

func leftOf(way int) int {
	return (way + 1) % ways
}

func rightOf(way int) int {
	return (way + ways - 1) % ways
}

func end(s side) api.Point {
	p := s.from
	switch s.way {
	case down:
		p.Y++
	case right:
		p.X++
	case up:
		p.Y--
	case left:
		p.X--
	}
	return p
}

// isSide tells whether black is on the left of s and white on the right.
func isSide(b api.Bitmap, s side) bool {
	black := pixelBetween(s.from, s.way, leftOf(s.way))
	white := pixelBetween(s.from, s.way, rightOf(s.way))
	if bitmap.IsBlack(b, white.X, white.Y) {
		return false
	}
	return bitmap.IsBlack(b, black.X, black.Y)
}

// pixelBetween answers the pixel at p that lies between two ways which are a turn apart.
func pixelBetween(p api.Point, one int, other int) api.Point {
	if one == up || other == up {
		p.Y--
	}
	if one == left || other == left {
		p.X--
	}
	return p
}
