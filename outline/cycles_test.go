package outline

import (
	"fmt"
	"math"
	"slices"
	"strings"
	"testing"

	"outline/api"
)

var (
	joined = api.Options{Policy: api.Join}
	parted = api.Options{Policy: api.Part}
	rare   = api.Options{Policy: api.Rare}
)

func drawn(draws string) api.Options {
	return api.Options{Policy: api.Drawn, Draws: draws}
}

// told writes shapes as the document does: each as its points and, in brackets, its Twice.
func told(l []api.Shape) string {
	var text []string
	for _, s := range l {
		for _, p := range s.Points {
			text = append(text, fmt.Sprintf("%d,%d", p.X, p.Y))
		}
		text = append(text, fmt.Sprintf("(%d)", s.Twice))
	}
	return strings.Join(text, " ")
}

func optionsOf(o api.Options) string {
	return fmt.Sprintf("policy %d, speckle %d, draws %.60q", o.Policy, o.Speckle, o.Draws)
}

func cyclesOf(t *testing.T, b api.Bitmap, o api.Options) []api.Shape {
	t.Helper()
	l, errno := Cycles(b, o)
	if errno != api.OK {
		t.Fatalf("Cycles(%+v, %s) = %s, %d", b, optionsOf(o), told(l), errno)
	}
	return l
}

func wantCycles(t *testing.T, b api.Bitmap, o api.Options, want string) {
	t.Helper()
	if got := told(cyclesOf(t, b, o)); got != want {
		t.Errorf("Cycles(%+v, %s) = %s, want %s", b, optionsOf(o), got, want)
	}
}

// wantRefused asks Trace too, as its errors are those of Cycles.
func wantRefused(t *testing.T, b api.Bitmap, o api.Options) {
	t.Helper()
	if l, errno := Cycles(b, o); len(l) != 0 || errno != api.ErrArg {
		t.Errorf("Cycles(%+v, %s) = %s, %d, want nothing, ErrArg", b, optionsOf(o), told(l), errno)
	}
	if l, errno := Trace(b, o); len(l) != 0 || errno != api.ErrArg {
		t.Errorf("Trace(%+v, %s) = %s, %d, want nothing, ErrArg", b, optionsOf(o), told(l), errno)
	}
}

func allOf(w, h int, pixel string) api.Bitmap {
	return api.Bitmap{W: w, H: h, Bits: strings.Repeat(pixel, w*h)}
}

// everyBitmap uses all bitmaps of w times h pixels.
func everyBitmap(w, h int, use func(api.Bitmap)) {
	for n := 0; n < 1<<(w*h); n++ {
		use(api.Bitmap{W: w, H: h, Bits: fmt.Sprintf("%0*b", w*h, n)})
	}
}

// everyPolicy answers options of all four policies; the draws are other ones for each seed.
func everyPolicy(b api.Bitmap, seed int) []api.Options {
	draws := pattern(b.W+1, b.H+1, seed).Bits
	return []api.Options{joined, parted, rare, drawn(draws), drawn(draws[:len(draws)/2])}
}

func TestP6Examples(t *testing.T) {
	wantCycles(t, rows("1"), joined, "0,0 0,1 1,1 1,0 (2)")
	wantCycles(t, rows("10", "01"), parted, "0,0 0,1 1,1 1,0 (2) 1,1 1,2 2,2 2,1 (2)")
	wantCycles(t, rows("10", "01"), joined, "0,0 0,1 1,1 1,2 2,2 2,1 1,1 1,0 (4)")
	wantCycles(t, rows("111", "101", "111"), joined, "0,0 0,1 0,2 0,3 1,3 2,3 3,3 3,2 3,1 3,0 2,0 1,0 (18) 1,1 2,1 2,2 1,2 (-2)")
}

func TestP6WhiteBitmapsHaveNoCycle(t *testing.T) {
	for w := 1; w <= api.MaxSide; w++ {
		for h := 1; h <= api.MaxSide; h++ {
			for _, o := range everyPolicy(allOf(w, h, "0"), 1) {
				wantCycles(t, allOf(w, h, "0"), o, "")
			}
		}
	}
}

func TestP6BlackBitmapsHaveOneCycle(t *testing.T) {
	for w := 1; w <= api.MaxSide; w++ {
		for h := 1; h <= api.MaxSide; h++ {
			var s api.Shape
			for y := 0; y < h; y++ {
				s.Points = append(s.Points, api.Point{X: 0, Y: y})
			}
			for x := 0; x < w; x++ {
				s.Points = append(s.Points, api.Point{X: x, Y: h})
			}
			for y := h; y > 0; y-- {
				s.Points = append(s.Points, api.Point{X: w, Y: y})
			}
			for x := w; x > 0; x-- {
				s.Points = append(s.Points, api.Point{X: x, Y: 0})
			}
			s.Twice = 2 * w * h
			for _, o := range everyPolicy(allOf(w, h, "1"), 1) {
				wantCycles(t, allOf(w, h, "1"), o, told([]api.Shape{s}))
			}
		}
	}
}

// A cycle that begins further up comes first, then one that begins further left, whatever it goes round.
func TestP6Order(t *testing.T) {
	wantCycles(t, rows("001", "000", "100"), joined, "2,0 2,1 3,1 3,0 (2) 0,2 0,3 1,3 1,2 (2)")
	wantCycles(t, rows("00101"), joined, "2,0 2,1 3,1 3,0 (2) 4,0 4,1 5,1 5,0 (2)")
	wantCycles(t, rows("1110", "1010", "1111"), parted,
		"0,0 0,1 0,2 0,3 1,3 2,3 3,3 4,3 4,2 3,2 3,1 3,0 2,0 1,0 (20) 1,1 2,1 2,2 1,2 (-2)")
	// Black within white within black.
	l := cyclesOf(t, rows("11111", "10001", "10101", "10001", "11111"), joined)
	if len(l) != 3 || l[0].Twice != 50 || l[1].Twice != -18 || l[2].Twice != 2 {
		t.Errorf("a pixel within a ring: %s", told(l))
	}
	// The hole begins in the row of the pixel on its right, and ahead of it.
	l = cyclesOf(t, rows("11100", "10101", "11100"), joined)
	if len(l) != 3 || l[0].Twice != 18 || l[1].Twice != -2 || l[2].Points[0] != (api.Point{X: 4, Y: 1}) {
		t.Errorf("a hole and a pixel behind it: %s", told(l))
	}
}

func TestP6CrossingsOfBothKinds(t *testing.T) {
	wantCycles(t, rows("01", "10"), joined, "1,0 1,1 0,1 0,2 1,2 1,1 2,1 2,0 (4)")
	wantCycles(t, rows("01", "10"), parted, "1,0 1,1 2,1 2,0 (2) 0,1 0,2 1,2 1,1 (2)")
	const round = "0,0 0,1 0,2 0,3 0,4 1,4 2,4 3,4 4,4 4,3 4,2 4,1 4,0 3,0 2,0 1,0 (32) "
	wantCycles(t, rows("1111", "1011", "1101", "1111"), joined, round+"1,1 2,1 2,2 1,2 (-2) 2,2 3,2 3,3 2,3 (-2)")
	wantCycles(t, rows("1111", "1011", "1101", "1111"), parted, round+"1,1 2,1 2,2 3,2 3,3 2,3 2,2 1,2 (-4)")
	wantCycles(t, rows("1111", "1101", "1011", "1111"), joined, round+"2,1 3,1 3,2 2,2 (-2) 1,2 2,2 2,3 1,3 (-2)")
	wantCycles(t, rows("1111", "1101", "1011", "1111"), parted, round+"2,1 3,1 3,2 2,2 2,3 1,3 1,2 2,2 (-4)")
}

// A chess board: it holds together as one, or is as many cycles as it has black pixels.
func TestP6ManyCrossings(t *testing.T) {
	var b api.Bitmap
	for y := 0; y < 32; y++ {
		b = api.Bitmap{W: 32, H: y + 1, Bits: b.Bits + strings.Repeat("10", 17)[y%2:y%2+32]}
	}
	if l := cyclesOf(t, b, parted); len(l) != 512 || l[511].Points[0] != (api.Point{X: 31, Y: 31}) {
		t.Errorf("parted: %d cycles", len(l))
	}
	// Joined, each white pixel that black ones hem in on all sides is a hole of its own.
	if l := cyclesOf(t, b, joined); len(l) != 1+450 || l[0].Twice != 2*(512+450) {
		t.Errorf("joined: %d cycles, the first of %d", len(l), l[0].Twice)
	}
	check := cyclesOf(t, b, drawn(strings.Repeat("1", 33*33)))
	if told(check) != told(cyclesOf(t, b, joined)) {
		t.Errorf("drawn everywhere is not joined")
	}
}

// Each of the 16 pixels around counts, and none beyond them.
func TestP6RareCountsThePixelsAround(t *testing.T) {
	for _, middle := range []string{"1001", "0110"} {
		for extra := 0; extra < 36; extra++ {
			for other := 0; other < 36; other++ {
				checkRare(t, middle, extra, other)
			}
		}
	}
}

// checkRare looks at the point 3,3 of 6 times 6 pixels: two of the middle four are black, four more around it, and the extra ones.
func checkRare(t *testing.T, middle string, extra, other int) {
	t.Helper()
	bits := []byte(strings.Repeat("0", 36))
	copy(bits[14:], middle[:2])
	copy(bits[20:], middle[2:])
	for _, n := range []int{7, 8, 9, 10} {
		bits[n] = '1'
	}
	if slices.Contains([]int{14, 15, 20, 21}, extra) || slices.Contains([]int{14, 15, 20, 21}, other) {
		return
	}
	bits[extra] = '1'
	bits[other] = '1'
	near := 0
	for y := 1; y <= 4; y++ {
		near += strings.Count(string(bits[y*6+1:y*6+5]), "1")
	}
	b := api.Bitmap{W: 6, H: 6, Bits: string(bits)}
	checkTurns(t, b, rare, 3, 3, near < 8)
}

// checkTurns sees to it that one who comes to the crossing turns right to join and left to part, both times.
func checkTurns(t *testing.T, b api.Bitmap, o api.Options, x, y int, join bool) {
	t.Helper()
	passed := 0
	l := cyclesOf(t, b, o)
	for _, s := range l {
		n := len(s.Points)
		for i, p := range s.Points {
			if p != (api.Point{X: x, Y: y}) {
				continue
			}
			passed++
			from, to := s.Points[(i+n-1)%n], s.Points[(i+1)%n]
			// Above 0 where the way bends to the right, as Y goes downward.
			bend := (p.X-from.X)*(to.Y-p.Y) - (p.Y-from.Y)*(to.X-p.X)
			if join && bend != 1 || !join && bend != -1 {
				t.Errorf("Cycles(%+v, %s) = %s: at %d,%d join is %v, the bend %d", b, optionsOf(o), told(l), x, y, join, bend)
			}
		}
	}
	if passed != 2 {
		t.Errorf("Cycles(%+v, %s) = %s: %d,%d is passed %d times", b, optionsOf(o), told(l), x, y, passed)
	}
}

// What is beyond is white, also where the next row begins there in the bits: 8 black ones around, and 7, at each edge.
func TestP6RareAtTheEdge(t *testing.T) {
	for _, c := range []struct {
		b    api.Bitmap
		x, y int
		join bool
	}{
		{rows("1111", "1001", "0101", "1111"), 1, 2, false},
		{rows("0111", "1001", "0101", "1111"), 1, 2, true},
		{rows("1111", "1001", "1010", "1111"), 3, 2, false},
		{rows("1111", "1001", "1010", "1110"), 3, 2, true},
		{rows("1101", "1011", "1001", "1111"), 2, 1, false},
		{rows("1101", "1011", "0001", "1111"), 2, 1, true},
		{rows("1111", "1001", "1011", "1101"), 2, 3, false},
		{rows("1111", "1000", "1011", "1101"), 2, 3, true},
		{rows("1011111", "0111111"), 1, 1, true},
		{rows("10", "01", "11", "11", "11"), 1, 1, true},
		{rows("011", "101", "111"), 1, 1, true},
		{rows("111", "101", "110"), 2, 2, true},
		{rows("111", "110", "101"), 2, 2, true},
		{rows("10", "01"), 1, 1, true},
	} {
		checkTurns(t, c.b, rare, c.x, c.y, c.join)
	}
	const side = api.MaxSide
	for _, at := range []int{1, side - 1} {
		bits := []byte(strings.Repeat("1", side*side))
		bits[at*side+at], bits[(at-1)*side+at-1] = '0', '0'
		checkTurns(t, api.Bitmap{W: side, H: side, Bits: string(bits)}, rare, at, at, true)
	}
}

func TestP6DrawsAreTakenByTheirNumber(t *testing.T) {
	for _, size := range [][2]int{{2, 2}, {5, 3}, {3, 5}, {32, 32}} {
		w, h := size[0], size[1]
		for _, crossing := range [][2]int{{1, 1}, {w - 1, 1}, {1, h - 1}, {w - 1, h - 1}} {
			x, y := crossing[0], crossing[1]
			bits := []byte(strings.Repeat("0", w*h))
			bits[(y-1)*w+x-1], bits[y*w+x] = '1', '1'
			checkDraws(t, api.Bitmap{W: w, H: h, Bits: string(bits)}, x, y)
			bits = []byte(strings.Repeat("1", w*h))
			bits[(y-1)*w+x-1], bits[y*w+x] = '0', '0'
			checkDraws(t, api.Bitmap{W: w, H: h, Bits: string(bits)}, x, y)
		}
	}
}

func checkDraws(t *testing.T, b api.Bitmap, x, y int) {
	t.Helper()
	n := y*(b.W+1) + x
	const many = 2000
	noughts, ones := strings.Repeat("0", many), strings.Repeat("1", many)
	checkTurns(t, b, drawn(noughts[:n]+"1"+noughts), x, y, true)
	checkTurns(t, b, drawn(ones[:n]+"0"+ones), x, y, false)
	checkTurns(t, b, drawn(noughts[:n]+"1"), x, y, true)
	checkTurns(t, b, drawn(ones[:n]), x, y, false)
	checkTurns(t, b, drawn(""), x, y, false)
	for c := 0; c < 256; c++ {
		checkTurns(t, b, drawn(ones[:n]+string([]byte{byte(c)})+ones), x, y, c == '1')
	}
}

func TestP6DrawsCountForDrawnAlone(t *testing.T) {
	for _, draws := range []string{"", "1", "000010000", "111101111", "111111111", "xxxxxxxxx"} {
		for _, o := range []api.Options{joined, parted, rare} {
			want := told(cyclesOf(t, rows("10", "01"), o))
			o.Draws = draws
			wantCycles(t, rows("10", "01"), o, want)
		}
	}
}

func TestP6SpeckleIsNotLookedAt(t *testing.T) {
	for seed := 0; seed < 20; seed++ {
		b := pattern(12, 9, seed)
		for _, o := range everyPolicy(b, seed) {
			want := told(cyclesOf(t, b, o))
			for _, speckle := range []int{0, 1, 2, 3, 1023, 1024} {
				o.Speckle = speckle
				wantCycles(t, b, o, want)
			}
		}
	}
}

func TestP6AndP10Refusals(t *testing.T) {
	for _, n := range []int{math.MinInt, -1 << 32, -4, -1, 4, 5, 7, 256, 1 << 32, 1<<32 + 1, math.MaxInt} {
		wantRefused(t, rows("1"), api.Options{Policy: n})
		wantRefused(t, rows("0"), api.Options{Policy: n, Draws: "1"})
	}
	for _, n := range []int{math.MinInt, -1 << 32, -1024, -1, 1025, 1026, 2048, 1 << 32, math.MaxInt} {
		for policy := 0; policy <= 3; policy++ {
			wantRefused(t, rows("1"), api.Options{Policy: policy, Speckle: n})
			wantRefused(t, rows("0"), api.Options{Policy: policy, Speckle: n})
		}
	}
	many := strings.Repeat("1", 33)
	for _, b := range []api.Bitmap{
		{}, {W: 1, H: 1}, {W: 1, H: 1, Bits: "2"}, {W: 1, H: 1, Bits: "11"}, {W: 2, H: 2, Bits: "111"}, {W: 2, H: 2, Bits: "111\x01"},
		{W: 33, H: 1, Bits: many}, {W: 1, H: 33, Bits: many}, {W: 0, H: 1}, {W: 1, H: 0}, {W: -1, H: -1, Bits: "1"},
		{W: math.MaxInt, H: math.MaxInt, Bits: "1"}, {W: math.MinInt, H: math.MinInt}, {W: 1 << 32, H: 1 << 32}, {W: 1 << 62, H: 4},
	} {
		for policy := -1; policy <= 4; policy++ {
			wantRefused(t, b, api.Options{Policy: policy})
			wantRefused(t, b, api.Options{Policy: policy, Speckle: 1025})
		}
	}
}

func TestP6AndP10OptionsAtTheirLimits(t *testing.T) {
	draws := strings.Repeat("1", 5000000)
	for policy := 0; policy <= 3; policy++ {
		for _, speckle := range []int{0, 1024} {
			o := api.Options{Policy: policy, Speckle: speckle, Draws: draws}
			wantCycles(t, rows("1"), o, "0,0 0,1 1,1 1,0 (2)")
			checkTrace(t, rows("1"), o, bestNumbers)
		}
	}
}
