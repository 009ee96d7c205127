package cycles

import (
	"outline/api"
	"outline/bitmap"
)

// joins tells whether one who walks joins at p, if that is a crossing.
func joins(b api.Bitmap, o api.Options, p api.Point) bool {
	switch o.Policy {
	case api.Join:
		return true
	case api.Rare:
		return blackAround(b, p) < 8
	case api.Drawn:
		return isDrawn(b, o, p)
	}
	return false
}

// blackAround counts the black ones of the 16 pixels around p.
func blackAround(b api.Bitmap, p api.Point) int {
	n := 0
	for y := p.Y - 2; y <= p.Y+1; y++ {
		for x := p.X - 2; x <= p.X+1; x++ {
			if bitmap.IsBlack(b, x, y) {
				n++
			}
		}
	}
	return n
}

func isDrawn(b api.Bitmap, o api.Options, p api.Point) bool {
	n := p.Y*(b.W+1) + p.X
	return n >= 0 && n < len(o.Draws) && o.Draws[n] == '1'
}
