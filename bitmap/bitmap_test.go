package bitmap

import (
	"math"
	"strings"
	"testing"

	"outline/api"
)

func TestEverySizeThatMayBe(t *testing.T) {
	for w := 1; w <= api.MaxSide; w++ {
		for h := 1; h <= api.MaxSide; h++ {
			b := api.Bitmap{W: w, H: h, Bits: strings.Repeat("1", w*h)}
			if !IsOne(b) {
				t.Errorf("IsOne says no to %d times %d pixels", w, h)
			}
			b.Bits += "0"
			if IsOne(b) {
				t.Errorf("IsOne takes %d times %d pixels and one more", w, h)
			}
			b.Bits = b.Bits[:w*h-1]
			if IsOne(b) {
				t.Errorf("IsOne takes %d times %d pixels less one", w, h)
			}
		}
	}
}

func TestSidesThatMayNotBe(t *testing.T) {
	for _, n := range []int{0, -1, api.MaxSide + 1, 1 << 32, 1 << 62, math.MaxInt, math.MinInt} {
		for _, bits := range []string{"", "0", strings.Repeat("0", 33), strings.Repeat("0", 32*33)} {
			for _, b := range []api.Bitmap{{W: n, H: 1, Bits: bits}, {W: 1, H: n, Bits: bits}, {W: n, H: 32, Bits: bits}, {W: 32, H: n, Bits: bits}, {W: n, H: n, Bits: bits}} {
				if IsOne(b) {
					t.Errorf("IsOne takes sides of %d and %d", b.W, b.H)
				}
			}
		}
	}
}

func TestBytesThatMayBe(t *testing.T) {
	for c := 0; c < 256; c++ {
		for at := 0; at < 6; at++ {
			bits := []byte("010110")
			bits[at] = byte(c)
			want := c == '0' || c == '1'
			if got := IsOne(api.Bitmap{W: 3, H: 2, Bits: string(bits)}); got != want {
				t.Errorf("IsOne of %q is %v", bits, got)
			}
		}
	}
}

func TestBlackPixels(t *testing.T) {
	b := api.Bitmap{W: 3, H: 2, Bits: "101011"}
	black := [][2]int{{0, 0}, {2, 0}, {1, 1}, {2, 1}}
	for y := -4; y <= 6; y++ {
		for x := -4; x <= 6; x++ {
			want := false
			for _, p := range black {
				want = want || p == [2]int{x, y}
			}
			if got := IsBlack(b, x, y); got != want {
				t.Errorf("IsBlack(%+v, %d, %d) = %v", b, x, y, got)
			}
		}
	}
}

// Bits that are over belong to no pixel.
func TestNoPixelsBehindTheLastRow(t *testing.T) {
	b := api.Bitmap{W: 2, H: 1, Bits: "1111"}
	if !IsBlack(b, 1, 0) || IsBlack(b, 0, 1) || IsBlack(b, 1, 1) {
		t.Errorf("IsBlack looks below the last row")
	}
}

func TestNoPixelsFarBeyond(t *testing.T) {
	far := []int{math.MinInt, -1 << 62, -1 << 32, 1 << 32, 1 << 62, math.MaxInt - 1, math.MaxInt}
	for _, n := range far {
		for _, m := range append(far, 0, 1, 2) {
			for _, b := range []api.Bitmap{{W: 2, H: 2, Bits: "1111"}, {W: math.MaxInt, H: math.MaxInt, Bits: "0"}, {W: 1 << 62, H: math.MaxInt, Bits: "0"}, {W: 2, H: 2}, {}} {
				if IsBlack(b, n, m) || IsBlack(b, m, n) {
					t.Errorf("IsBlack finds a pixel at %d, %d of %+v", n, m, b)
				}
			}
		}
	}
}
