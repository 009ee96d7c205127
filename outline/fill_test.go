package outline

import (
	"math"
	"strings"
	"testing"

	"outline/api"
)

func filled(t *testing.T, l []api.Shape, w, h, rule int) api.Bitmap {
	t.Helper()
	b, errno := Fill(l, w, h, rule)
	if errno != api.OK {
		t.Fatalf("Fill(%.200s, %d, %d, %d) = %+v, %d", told(l), w, h, rule, b, errno)
	}
	return b
}

func wantFilledBy(t *testing.T, l []api.Shape, rule int, want api.Bitmap) {
	t.Helper()
	if b := filled(t, l, want.W, want.H, rule); b != want {
		t.Errorf("Fill(%.200s, %d, %d, %d) = %+v, want %+v", told(l), want.W, want.H, rule, b, want)
	}
}

// wantFilled wants the same of both rules.
func wantFilled(t *testing.T, l []api.Shape, want api.Bitmap) {
	t.Helper()
	wantFilledBy(t, l, api.NonZero, want)
	wantFilledBy(t, l, api.Odd, want)
}

func wantNotFilled(t *testing.T, l []api.Shape, w, h, rule int) {
	t.Helper()
	if b, errno := Fill(l, w, h, rule); b != (api.Bitmap{}) || errno != api.ErrArg {
		t.Errorf("Fill(%.200s, %d, %d, %d) = %+v, %d, want nothing, ErrArg", told(l), w, h, rule, b, errno)
	}
}

func TestP13NoShapes(t *testing.T) {
	for w := 1; w <= api.MaxSide; w++ {
		for h := 1; h <= api.MaxSide; h++ {
			wantFilled(t, nil, allOf(w, h, "0"))
			wantFilled(t, []api.Shape{}, allOf(w, h, "0"))
		}
	}
}

func TestP13ShapesThatGoRoundNothing(t *testing.T) {
	for x := 0; x <= api.MaxSide; x++ {
		for y := 0; y <= api.MaxSide; y++ {
			wantFilled(t, shapes(through(x, y)), allOf(32, 32, "0"))
			// There and back again; some of these lines go through middles.
			wantFilled(t, shapes(through(x, y, y, 32-x)), allOf(32, 32, "0"))
		}
	}
	wantFilled(t, shapes(through(0, 0, 3, 1, 3, 1, 0, 0)), allOf(3, 3, "0"))
	wantFilled(t, shapes(through(0, 0, 0, 3, 0, 1)), allOf(3, 3, "0"))
}

func TestP13Rectangles(t *testing.T) {
	wantFilled(t, shapes(through(0, 0, 0, 1, 1, 1, 1, 0)), rows("1"))
	wantFilled(t, shapes(through(0, 0, 0, 2, 2, 2, 2, 0)), rows("110", "110", "000"))
	wantFilled(t, shapes(through(0, 0, 2, 0, 2, 2, 0, 2)), rows("110", "110", "000"))
	wantFilled(t, shapes(through(1, 1, 1, 2, 3, 2, 3, 1)), rows("0000", "0110", "0000"))
	wantFilled(t, shapes(through(1, 0, 1, 1, 2, 1, 2, 0), through(0, 1, 0, 2, 1, 2, 1, 1)), rows("01", "10"))
}

// What lies beyond the bitmap is not there, and does not come in again on its other side.
func TestP13EverySize(t *testing.T) {
	const most = api.MaxSide
	for w := 1; w <= most; w++ {
		for h := 1; h <= most; h++ {
			wantFilled(t, shapes(through(0, 0, 0, most, most, most, most, 0)), allOf(w, h, "1"))
			wantFilled(t, shapes(through(0, 0, 0, h, w, h, w, 0)), allOf(w, h, "1"))
			wantFilled(t, shapes(through(w, 0, w, most, most, most, most, 0)), allOf(w, h, "0"))
			wantFilled(t, shapes(through(0, h, 0, most, most, most, most, h)), allOf(w, h, "0"))
			last := strings.Repeat("0", w*h-1) + "1"
			wantFilled(t, shapes(through(w-1, h-1, w-1, h, w, h, w, h-1)), api.Bitmap{W: w, H: h, Bits: last})
		}
	}
}

// Only lines strictly to the right of a middle count: so one that goes through it leaves it to what is on the right.
func TestP13LinesThroughMiddles(t *testing.T) {
	wantFilled(t, shapes(through(0, 0, 0, 2, 2, 2)), rows("00", "10"))
	wantFilled(t, shapes(through(0, 0, 2, 2, 2, 0)), rows("11", "01"))
	wantFilled(t, shapes(through(0, 0, 0, 2, 2, 0)), rows("10", "00"))
	wantFilled(t, shapes(through(0, 2, 2, 2, 2, 0)), rows("01", "11"))
	wantFilled(t, shapes(through(0, 0, 3, 1, 0, 1)), rows("100"))
	wantFilled(t, shapes(through(0, 0, 3, 1, 3, 0)), rows("011"))
	wantFilled(t, shapes(through(0, 0, 1, 3, 0, 3)), rows("0", "0", "1"))
	wantFilled(t, shapes(through(0, 0, 1, 3, 1, 0)), rows("1", "1", "0"))
	// Both halves of a square: what lies on the line between them belongs to one.
	wantFilled(t, shapes(through(0, 0, 0, 32, 32, 32), through(0, 0, 32, 32, 32, 0)), allOf(32, 32, "1"))
}

func TestP13LinesBesideMiddles(t *testing.T) {
	wantFilled(t, shapes(through(0, 0, 0, 3, 3, 3, 2, 1)), rows("100", "110", "111"))
	wantFilled(t, shapes(through(0, 0, 0, 32, 31, 32)), inside(32, 32, func(x, y int) bool { return x < y }))
	wantFilled(t, shapes(through(0, 0, 0, 31, 32, 31)), inside(32, 31, func(x, y int) bool { return x <= y }))
	wantFilled(t, shapes(through(1, 0, 0, 1, 1, 2, 2, 1)), rows("10", "10"))
}

// Each number of rounds, by each rule, to the left and to the right.
func TestP13RulesAndRounds(t *testing.T) {
	left, right := through(0, 0, 0, 2, 2, 2, 2, 0), through(0, 0, 2, 0, 2, 2, 0, 2)
	for lefts := 0; lefts <= 5; lefts++ {
		for rights := 0; rights <= 5; rights++ {
			var l []api.Shape
			once := api.Shape{}
			for n := 0; n < lefts; n++ {
				l = append(l, left)
				once.Points = append(once.Points, left.Points...)
			}
			for n := 0; n < rights; n++ {
				l = append(l, right)
				once.Points = append(once.Points, right.Points...)
			}
			nonZero, odd := allOf(2, 2, "1"), allOf(2, 2, "1")
			if lefts == rights {
				nonZero = allOf(2, 2, "0")
			}
			if (lefts+rights)%2 == 0 {
				odd = allOf(2, 2, "0")
			}
			wantFilledBy(t, l, api.NonZero, nonZero)
			wantFilledBy(t, l, api.Odd, odd)
			// One shape that goes as many times round, as all of these begin at one point.
			if lefts+rights > 0 {
				wantFilledBy(t, shapes(once), api.NonZero, nonZero)
				wantFilledBy(t, shapes(once), api.Odd, odd)
			}
		}
	}
}

func TestP13ShapesThatCross(t *testing.T) {
	wide, high := through(0, 1, 0, 2, 3, 2, 3, 1), through(1, 0, 1, 3, 2, 3, 2, 0)
	back := through(1, 0, 2, 0, 2, 3, 1, 3)
	wantFilledBy(t, shapes(wide, high), api.NonZero, rows("010", "111", "010"))
	wantFilledBy(t, shapes(wide, high), api.Odd, rows("010", "101", "010"))
	wantFilledBy(t, shapes(wide, back), api.NonZero, rows("010", "101", "010"))
	wantFilledBy(t, shapes(wide, back), api.Odd, rows("010", "101", "010"))
	// One that crosses itself.
	wantFilled(t, shapes(through(0, 0, 4, 4, 4, 0, 0, 3)), rows("0001", "1011", "1011", "0001"))
	// A star goes twice round its middle.
	star := shapes(through(8, 0, 3, 15, 16, 6, 0, 6, 13, 15))
	if filled(t, star, 16, 16, api.NonZero).Bits[8*16+8] != '1' || filled(t, star, 16, 16, api.Odd).Bits[8*16+8] != '0' {
		t.Errorf("the middle of a star")
	}
}

func TestP13SizesAndRulesThatMayNotBe(t *testing.T) {
	square := shapes(through(0, 0, 0, 1, 1, 1, 1, 0))
	for _, n := range []int{math.MinInt, -1 << 32, -33, -2, -1, 33, 34, 64, 1 << 31, 1 << 32, 1<<32 + 1, 1 << 62, math.MaxInt} {
		for _, l := range [][]api.Shape{nil, square, {{}}} {
			for rule := 0; rule <= 1; rule++ {
				for _, other := range []int{1, 2, 32, 0, n} {
					wantNotFilled(t, l, n, other, rule)
					wantNotFilled(t, l, other, n, rule)
				}
				wantNotFilled(t, l, 0, 1, rule)
				wantNotFilled(t, l, 1, 0, rule)
				wantNotFilled(t, l, 0, 0, rule)
			}
			for _, rule := range []int{n, 2, 3, 4} {
				wantNotFilled(t, l, 1, 1, rule)
				wantNotFilled(t, l, 32, 32, rule)
			}
		}
	}
}

// checkFill holds an answer to what P13 says of every pixel.
func checkFill(t *testing.T, l []api.Shape, w, h int) {
	t.Helper()
	nonZero, odd := make([]byte, w*h), make([]byte, w*h)
	for i := range nonZero {
		sum := 0
		for _, s := range l {
			sum += timesRound(s, i%w, i/w)
		}
		nonZero[i], odd[i] = '0', '0'
		if sum != 0 {
			nonZero[i] = '1'
		}
		if sum&1 == 1 {
			odd[i] = '1'
		}
	}
	wantFilledBy(t, l, api.NonZero, api.Bitmap{W: w, H: h, Bits: string(nonZero)})
	wantFilledBy(t, l, api.Odd, api.Bitmap{W: w, H: h, Bits: string(odd)})
}

// everyShape uses all shapes of so many points with coordinates of 0 to most.
func everyShape(points, most int, use func(api.Shape)) {
	side := most + 1
	all := 1
	for i := 0; i < points; i++ {
		all *= side * side
	}
	for n := 0; n < all; n++ {
		var s api.Shape
		for rest := n; len(s.Points) < points; rest /= side * side {
			s.Points = append(s.Points, api.Point{X: rest % side, Y: rest / side % side})
		}
		use(s)
	}
}

func TestP13EverySmallShape(t *testing.T) {
	everyShape(1, 5, func(s api.Shape) { checkFill(t, shapes(s), 5, 5) })
	everyShape(2, 5, func(s api.Shape) { checkFill(t, shapes(s), 5, 5) })
	everyShape(3, 3, func(s api.Shape) { checkFill(t, shapes(s), 3, 3) })
	everyShape(4, 2, func(s api.Shape) { checkFill(t, shapes(s), 2, 2) })
}

func TestP13PatternsOfShapes(t *testing.T) {
	for seed := 0; seed < 400; seed++ {
		most := []int{1, 2, 3, 5, 9, 32}[seed%6]
		l := patternShapes(1+seed%7, most, seed)
		checkFill(t, l, 1+seed*7%32, 1+seed*11%32)
		checkFill(t, l, most, most)
	}
	for seed := 0; seed < 10; seed++ {
		checkFill(t, patternShapes(200, 32, seed), 32, 32)
	}
}

// checkBack fills the cycles and the polygons of b: to b, to more than b, and to a part of it.
func checkBack(t *testing.T, b api.Bitmap, o api.Options) {
	t.Helper()
	o.Speckle = 0
	for _, l := range [][]api.Shape{cyclesOf(t, b, o), traceOf(t, b, o)} {
		wantFilled(t, l, b)
		for _, size := range [][2]int{{32, 32}, {(b.W + 1) / 2, 32}, {32, (b.H + 1) / 2}} {
			wantFilled(t, l, inside(size[0], size[1], func(x, y int) bool { return blackPixel(b, x, y) == 1 }))
		}
	}
}

func TestP7AndP10FilledAgain(t *testing.T) {
	for _, size := range [][2]int{{1, 1}, {1, 5}, {5, 1}, {2, 4}, {4, 2}, {3, 3}} {
		seed := 0
		everyBitmap(size[0], size[1], func(b api.Bitmap) {
			seed++
			checkBack(t, b, everyPolicy(b, seed)[seed%5])
		})
	}
	for seed := 0; seed < 90; seed++ {
		b := thick(1+seed*5%32, 1+seed*7%32, seed, seed%9)
		checkBack(t, b, everyPolicy(b, seed)[seed%5])
	}
	for eighths := 0; eighths <= 8; eighths++ {
		b := thick(32, 32, eighths, eighths)
		for _, o := range everyPolicy(b, eighths) {
			checkBack(t, b, o)
		}
	}
}

// Polygons have long lines where black ends at a slope or goes round.
func TestP10SlopesAndRoundThingsFilledAgain(t *testing.T) {
	for dx := -5; dx <= 5; dx++ {
		for dy := -5; dy <= 5; dy++ {
			checkBack(t, inside(20, 18, func(x, y int) bool { return (x-9)*dx+(y-9)*dy < 2 }), joined)
		}
	}
	for size := 0; size < 450; size += 37 {
		checkBack(t, inside(32, 30, func(x, y int) bool { return (x-15)*(x-15)+(y-14)*(y-14) < size }), rare)
	}
}

func TestP10WithoutItsSpecklesFilled(t *testing.T) {
	b := rows("111", "101", "111")
	wantFilled(t, traceOf(t, b, speckled(1)), rows("111", "111", "111"))
	wantFilled(t, traceOf(t, b, speckled(0)), b)
	wantFilled(t, traceOf(t, b, speckled(9)), allOf(3, 3, "0"))
	wantFilled(t, traceOf(t, rows("101101111", "000001111"), speckled(1)), rows("001101111", "000001111"))
}
