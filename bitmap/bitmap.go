// Package bitmap tells what a bitmap is, and where it is black.
package bitmap

import "outline/api"

// IsOne tells whether b is a bitmap: its sides may be, and each pixel is there and black or white.
func IsOne(b api.Bitmap) bool {
	// The sides come first, so that their product cannot overflow.
	if !IsSide(b.W) || !IsSide(b.H) || len(b.Bits) != b.W*b.H {
		return false
	}
	for i := 0; i < len(b.Bits); i++ {
		if b.Bits[i] != '0' && b.Bits[i] != '1' {
			return false
		}
	}
	return true
}

// IsSide tells whether a bitmap may be so wide, or so high.
func IsSide(n int) bool {
	return n >= 1 && n <= api.MaxSide
}

// IsBlack tells whether pixel (x, y) is black: all that is beyond the bitmap is white.
func IsBlack(b api.Bitmap, x int, y int) bool {
	if x < 0 || x >= b.W || y < 0 || y >= b.H {
		return false
	}
	n := y*b.W + x
	return n >= 0 && n < len(b.Bits) && b.Bits[n] == '1'
}
