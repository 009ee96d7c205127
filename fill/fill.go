// Package fill makes bitmaps of shapes (P13).
package fill

import (
	"outline/api"
	"outline/bitmap"
	"outline/shape"
)

// Fill answers the bitmap of w times h pixels whose black ones are those that the rule says lie within the shapes.
func Fill(l []api.Shape, w int, h int, rule int) (api.Bitmap, api.Errno) {
	if !bitmap.IsSide(w) || !bitmap.IsSide(h) || !isRule(rule) || !shape.MayBe(l) {
		return api.Bitmap{}, api.ErrArg
	}
	var bits []byte
	for y := 0; y < h; y++ {
		for x := 0; x < w; x++ {
			n := windingOfAll(l, x, y)
			bits = append(bits, pixel(n, rule))
		}
	}
	return api.Bitmap{W: w, H: h, Bits: string(bits)}, api.OK
}

func isRule(rule int) bool {
	return rule == api.NonZero || rule == api.Odd
}

func windingOfAll(l []api.Shape, x int, y int) int {
	sum := 0
	for i := 0; i < len(l); i++ {
		sum += shape.Winding(l[i].Points, x, y)
	}
	return sum
}

// pixel answers a pixel by the winding number at its middle. An odd number below 0 leaves -1, not 1.
func pixel(winding int, rule int) byte {
	if winding == 0 || (rule == api.Odd && winding%2 == 0) {
		return '0'
	}
	return '1'
}
