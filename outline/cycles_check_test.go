package outline

import (
	"testing"

	"outline/api"
)

// checkCycles holds an answer to all that P6 and P7 say of it. No other answer passes: the sides and the turns settle the cycles, and the first points the order.
func checkCycles(t *testing.T, b api.Bitmap, o api.Options) {
	t.Helper()
	l := cyclesOf(t, b, o)
	for _, fault := range []string{wrongOrder(l), wrongSides(b, l), wrongTurns(b, o, l), wrongWinding(b, l), wrongTwice(l)} {
		if fault != "" {
			t.Fatalf("Cycles(%+v, %s) = %s: %s", b, optionsOf(o), told(l), fault)
		}
	}
}

// ahead tells whether p comes ahead of q, row by row.
func ahead(p, q api.Point) bool {
	return p.Y < q.Y || p.Y == q.Y && p.X < q.X
}

func wrongOrder(l []api.Shape) string {
	for i, s := range l {
		if len(s.Points) == 0 {
			return "a cycle without points"
		}
		for _, p := range s.Points[1:] {
			if !ahead(s.Points[0], p) {
				return "a cycle doesn't begin with its first point"
			}
		}
		if i > 0 && !ahead(l[i-1].Points[0], s.Points[0]) {
			return "the order of cycles"
		}
	}
	return ""
}

// blackPixel is 1 if the pixel is black, else 0.
func blackPixel(b api.Bitmap, x, y int) int {
	if x >= 0 && x < b.W && y >= 0 && y < b.H && b.Bits[y*b.W+x] == '1' {
		return 1
	}
	return 0
}

type line struct{ from, to api.Point }

func linesOf(s api.Shape) []line {
	var l []line
	for i, p := range s.Points {
		l = append(l, line{p, s.Points[(i+1)%len(s.Points)]})
	}
	return l
}

func twiceOf(s api.Shape) int {
	twice := 0
	for _, l := range linesOf(s) {
		twice += l.from.Y*l.to.X - l.from.X*l.to.Y
	}
	return twice
}

// sidesOf answers the sides of a bitmap, by what the document says of each side of a black pixel.
func sidesOf(b api.Bitmap) map[line]bool {
	sides := map[line]bool{}
	for y := 0; y < b.H; y++ {
		for x := 0; x < b.W; x++ {
			if blackPixel(b, x, y) == 0 {
				continue
			}
			a, c := api.Point{X: x, Y: y}, api.Point{X: x, Y: y + 1}
			d, e := api.Point{X: x + 1, Y: y + 1}, api.Point{X: x + 1, Y: y}
			sides[line{a, c}] = blackPixel(b, x-1, y) == 0
			sides[line{c, d}] = blackPixel(b, x, y+1) == 0
			sides[line{d, e}] = blackPixel(b, x+1, y) == 0
			sides[line{e, a}] = blackPixel(b, x, y-1) == 0
		}
	}
	return sides
}

func wrongSides(b api.Bitmap, l []api.Shape) string {
	sides := sidesOf(b)
	for _, s := range l {
		for _, side := range linesOf(s) {
			if !sides[side] {
				return "a line that is no side, or is there twice"
			}
			sides[side] = false
		}
	}
	for _, left := range sides {
		if left {
			return "a side is in no cycle"
		}
	}
	return ""
}

func mustJoin(b api.Bitmap, o api.Options, p api.Point) bool {
	around := 0
	for n := 0; n < 16; n++ {
		around += blackPixel(b, p.X-2+n%4, p.Y-2+n/4)
	}
	number := p.Y*(b.W+1) + p.X
	return o.Policy == api.Join || o.Policy == api.Rare && around < 8 ||
		o.Policy == api.Drawn && number < len(o.Draws) && o.Draws[number] == '1'
}

func wrongTurns(b api.Bitmap, o api.Options, l []api.Shape) string {
	begins := map[api.Point]int{}
	for side, isOne := range sidesOf(b) {
		if isOne {
			begins[side.from]++
		}
	}
	for _, s := range l {
		lines := linesOf(s)
		for i, next := range lines {
			if begins[next.from] < 2 {
				continue
			}
			last := lines[(i+len(lines)-1)%len(lines)]
			// 1 for one who turns right, -1 for one who turns left: Y goes downward.
			turn := (last.to.X-last.from.X)*(next.to.Y-next.from.Y) - (last.to.Y-last.from.Y)*(next.to.X-next.from.X)
			if mustJoin(b, o, next.from) != (turn == 1) || turn == 0 {
				return "the turn at a crossing"
			}
		}
	}
	return ""
}

// addWinding adds a cycle's winding numbers at the middles of all pixels, and of those right beyond the bitmap: x and y of each are one more than the pixel's.
func addWinding(s api.Shape, at *[api.MaxSide + 2][api.MaxSide + 2]int) {
	for _, side := range linesOf(s) {
		top := min(side.from.Y, side.to.Y)
		for x := -1; x < side.from.X && top != max(side.from.Y, side.to.Y); x++ {
			at[top+1][x+1] += side.from.Y - side.to.Y
		}
	}
}

func wrongWinding(b api.Bitmap, l []api.Shape) string {
	var winding [api.MaxSide + 2][api.MaxSide + 2]int
	for _, s := range l {
		addWinding(s, &winding)
	}
	for y := -1; y <= b.H; y++ {
		for x := -1; x <= b.W; x++ {
			if winding[y+1][x+1] != blackPixel(b, x, y) {
				return "the winding numbers"
			}
		}
	}
	return ""
}

func wrongTwice(l []api.Shape) string {
	for _, s := range l {
		twice := twiceOf(s)
		if s.Twice != twice || twice == 0 {
			return "the Twice of a cycle"
		}
		// The pixel below and to the right of its first point is one that the cycle goes round.
		var winding [api.MaxSide + 2][api.MaxSide + 2]int
		addWinding(s, &winding)
		if winding[s.Points[0].Y+1][s.Points[0].X+1]*twice <= 0 {
			return "the sign of a Twice"
		}
	}
	return ""
}

func TestP7EverySmallBitmap(t *testing.T) {
	for _, size := range [][2]int{{1, 1}, {1, 6}, {6, 1}, {2, 2}, {2, 5}, {5, 2}, {3, 3}, {4, 3}, {3, 4}} {
		seed := 0
		everyBitmap(size[0], size[1], func(b api.Bitmap) {
			seed++
			for _, o := range everyPolicy(b, seed) {
				checkCycles(t, b, o)
			}
		})
	}
}

// A bitmap with one crossing or two in the middle, under all draws that concern it.
func TestP7EveryDraw(t *testing.T) {
	everyBitmap(3, 3, func(b api.Bitmap) {
		for n := 0; n < 16; n++ {
			draws := []byte("xxxx" + "x00x" + "x00x" + "xxxx")
			for k, at := range []int{5, 6, 9, 10} {
				draws[at] += byte(n >> k & 1)
			}
			checkCycles(t, b, drawn(string(draws)))
		}
	})
}

// thick answers a pattern of which about so many eighths are black.
func thick(w, h, seed, eighths int) api.Bitmap {
	bits := make([]byte, w*h)
	x, y, z := pattern(w, h, seed).Bits, pattern(w, h, seed+1).Bits, pattern(w, h, seed+2).Bits
	for i := range bits {
		bits[i] = '0'
		if int(x[i]-'0')*4+int(y[i]-'0')*2+int(z[i]-'0') < eighths {
			bits[i] = '1'
		}
	}
	return api.Bitmap{W: w, H: h, Bits: string(bits)}
}

func TestP7GreaterBitmaps(t *testing.T) {
	seed := 0
	for _, size := range [][2]int{{4, 4}, {5, 5}, {8, 6}, {7, 13}, {32, 1}, {1, 32}, {31, 2}, {32, 31}, {31, 32}, {32, 32}} {
		for eighths := 0; eighths <= 8; eighths++ {
			for n := 0; n < 4; n++ {
				seed += 3
				b := thick(size[0], size[1], seed, eighths)
				for _, o := range everyPolicy(b, seed) {
					checkCycles(t, b, o)
				}
			}
		}
	}
}
