package outline

import (
	"strings"
	"testing"

	"outline/api"
)

func traceOf(t *testing.T, b api.Bitmap, o api.Options) []api.Shape {
	t.Helper()
	l, errno := Trace(b, o)
	if errno != api.OK {
		t.Fatalf("Trace(%+v, %s) = %s, %d", b, optionsOf(o), told(l), errno)
	}
	return l
}

func wantTrace(t *testing.T, b api.Bitmap, o api.Options, want string) {
	t.Helper()
	if got := told(traceOf(t, b, o)); got != want {
		t.Errorf("Trace(%+v, %s) = %s, want %s", b, optionsOf(o), got, want)
	}
}

func speckled(n int) api.Options {
	return api.Options{Policy: api.Join, Speckle: n}
}

func TestP9Examples(t *testing.T) {
	wantTrace(t, rows("11", "11"), joined, "0,0 0,2 2,2 2,0 (8)")
	wantTrace(t, rows("100", "110", "111"), joined, "0,0 0,3 3,3 2,1 (12)")
	wantTrace(t, rows("111", "101", "111"), speckled(1), "0,0 0,3 3,3 3,0 (18)")
}

func TestP9OnePixel(t *testing.T) {
	for _, o := range everyPolicy(rows("1"), 1) {
		wantTrace(t, rows("0"), o, "")
		wantTrace(t, rows("1"), o, "0,0 0,1 1,1 1,0 (2)")
	}
}

func TestP9WhiteBitmapsHaveNoPolygon(t *testing.T) {
	for w := 1; w <= api.MaxSide; w++ {
		for h := 1; h <= api.MaxSide; h++ {
			wantTrace(t, allOf(w, h, "0"), everyPolicy(allOf(w, h, "0"), 1)[w%4], "")
		}
	}
}

// straight answers the points on a way of so many sides at which lines begin: all the lines but the first have MaxSpan sides, as that is the least row.
func straight(from api.Point, dx, dy, sides int) []api.Point {
	l := []api.Point{from}
	for at := (sides-1)%api.MaxSpan + 1; at < sides; at += api.MaxSpan {
		l = append(l, api.Point{X: from.X + dx*at, Y: from.Y + dy*at})
	}
	return l
}

func TestP9BlackBitmaps(t *testing.T) {
	for w := 1; w <= api.MaxSide; w++ {
		for h := 1; h <= api.MaxSide; h++ {
			s := api.Shape{Twice: 2 * w * h}
			s.Points = append(s.Points, straight(api.Point{X: 0, Y: 0}, 0, 1, h)...)
			s.Points = append(s.Points, straight(api.Point{X: 0, Y: h}, 1, 0, w)...)
			s.Points = append(s.Points, straight(api.Point{X: w, Y: h}, 0, -1, h)...)
			s.Points = append(s.Points, straight(api.Point{X: w, Y: 0}, -1, 0, w)...)
			wantTrace(t, allOf(w, h, "1"), everyPolicy(allOf(w, h, "1"), 1)[h%4], told([]api.Shape{s}))
		}
	}
	const greatest = "0,0 0,8 0,20 0,32 8,32 20,32 32,32 32,24 32,12 32,0 24,0 12,0 (2048)"
	wantTrace(t, allOf(32, 32, "1"), joined, greatest)
}

func TestP8LinesOfMaxSpanSides(t *testing.T) {
	wantTrace(t, rows("111111111111"), joined, "0,0 0,1 12,1 12,0 (24)")
	wantTrace(t, rows("1111111111111"), joined, "0,0 0,1 1,1 13,1 13,0 12,0 (26)")
	wantTrace(t, rows(strings.Split("111111111111", "")...), joined, "0,0 0,12 1,12 1,0 (24)")
	wantTrace(t, rows(strings.Split("1111111111111", "")...), joined, "0,0 0,1 0,13 1,13 1,12 1,0 (26)")
	// The slope has 12 sides.
	wantTrace(t, rows("10000000", "11100000", "11111000", "11111110", "11111111"), joined, "0,0 0,5 8,5 8,4 (48)")
	// This one has 13: but for that, a line from 9,4 to 0,0 would fit.
	wantTrace(t, rows("100000000", "111000000", "111111000", "111111110", "111111111"), joined, "0,0 0,5 9,5 8,3 4,2 (54)")
}

// On its way round a pixel that is missing, or is too many, a line from corner to corner would go through its middle.
func TestP8NoLineGoesThroughAMiddle(t *testing.T) {
	wantTrace(t, rows("10", "11"), joined, "0,0 0,2 2,2 2,1 (6)")
	wantTrace(t, rows("01", "11"), joined, "1,0 0,2 2,2 2,0 (6)")
	wantTrace(t, rows("11", "01"), joined, "0,0 0,1 2,2 2,0 (6)")
	wantTrace(t, rows("11", "10"), joined, "0,0 0,2 1,2 2,0 (6)")
	for _, l := range [][]string{{"010", "111", "010"}, {"11011", "10001", "11011"}, {"1000", "1100", "1110", "1111"}} {
		for _, s := range traceOf(t, rows(l...), joined) {
			for _, line := range linesOf(s) {
				if throughMiddle(line.from, line.to) {
					t.Errorf("Trace of %v: the line %v goes through a middle", l, line)
				}
			}
		}
	}
}

// A way that goes round a pixel and comes back to where it was is no line, though nothing lies between its ends.
func TestP8NoLineFromAPointToItself(t *testing.T) {
	wantTrace(t, rows("101", "010", "101"), joined, "0,0 0,1 1,1 0,3 1,3 1,2 3,3 3,2 2,2 3,0 2,0 2,1 (10)")
	for n := 0; n < 40; n++ {
		for _, s := range traceOf(t, pattern(9, 9, n), joined) {
			for _, line := range linesOf(s) {
				if line.from == line.to {
					t.Errorf("a line from %v to itself", line.from)
				}
			}
		}
	}
}

// With 1,0 in place of 2,1 the first one would cost 6, not 4; in the second one the slope of 15 sides is parted where it costs least (26, not 34), and of two such places at the first.
func TestP9OfRowsAsLongTheCheapest(t *testing.T) {
	wantTrace(t, rows("100", "110", "111"), joined, "0,0 0,3 3,3 2,1 (12)")
	wantTrace(t, rows("1000000000", "1110000000", "1111100000", "1111111000", "1111111110", "1111111111"), joined, "0,0 0,6 10,6 10,5 6,3 (70)")
}

// The polygon with 1,2 2,2 1,0 costs as much as this one, and has as many lines: but its row is 0, 3, .. and this one's 0, 1, ..
func TestP9OfRowsThatCostAsMuchTheLeast(t *testing.T) {
	wantTrace(t, rows("10", "01"), joined, "0,0 0,1 2,2 2,1 (4)")
	wantTrace(t, rows("01", "10"), joined, "1,0 0,2 1,2 2,0 (4)")
	// 0,0 0,2 2,2 1,0 would cost as much.
	wantTrace(t, rows("10", "11"), joined, "0,0 0,2 2,2 2,1 (6)")
}

// A line from 3,0 to 1,1 would fit, and make one line less of it: but it would go on past the first point. (The Twice of a cycle stays, as a line through no middle has as much beside it on the left as on the right.)
func TestP9TheFirstPointIsACorner(t *testing.T) {
	wantTrace(t, rows("001", "111"), joined, "2,0 2,1 0,1 0,2 3,2 3,0 (8)")
	wantTrace(t, rows("0011", "1111"), joined, "2,0 2,1 0,1 0,2 4,2 4,0 (12)")
	for seed := 0; seed < 60; seed++ {
		b := thick(14, 11, seed, seed%9)
		for _, o := range everyPolicy(b, seed) {
			cycles := cyclesOf(t, b, o)
			for i, s := range traceOf(t, b, o) {
				if s.Points[0] != cycles[i].Points[0] || s.Twice != cycles[i].Twice {
					t.Fatalf("Trace(%+v, %s): %s for the cycle %s", b, optionsOf(o), told([]api.Shape{s}), told(cycles[i:i+1]))
				}
			}
		}
	}
}

func TestP9Holes(t *testing.T) {
	wantTrace(t, rows("111", "101", "111"), joined, "0,0 0,3 3,3 3,0 (18) 1,1 2,1 2,2 1,2 (-2)")
	wantTrace(t, rows("11111", "11011", "10001", "11011", "11111"), joined, "0,0 0,5 5,5 5,0 (50) 2,1 4,2 3,4 1,3 (-10)")
	wantTrace(t, rows("11111", "10001", "10101", "10001", "11111"), joined,
		"0,0 0,5 5,5 5,0 (50) 1,1 4,1 4,4 1,4 (-18) 2,2 2,3 3,3 3,2 (2)")
}

func TestP10CrossingsUnderEachPolicy(t *testing.T) {
	const one, two = "0,0 0,1 2,2 2,1 (4)", "0,0 0,1 1,1 1,0 (2) 1,1 1,2 2,2 2,1 (2)"
	wantTrace(t, rows("10", "01"), joined, one)
	wantTrace(t, rows("10", "01"), parted, two)
	wantTrace(t, rows("10", "01"), rare, one)
	wantTrace(t, rows("10", "01"), drawn("00001"), one)
	wantTrace(t, rows("10", "01"), drawn("111101111"), two)
	const round = "0,0 0,4 4,4 4,0 (32) "
	const hole, holes = round + "1,1 2,1 3,3 2,3 (-4)", round + "1,1 2,1 2,2 1,2 (-2) 2,2 3,2 3,3 2,3 (-2)"
	b := rows("1111", "1011", "1101", "1111")
	wantTrace(t, b, joined, holes)
	wantTrace(t, b, parted, hole)
	wantTrace(t, b, rare, hole)
	wantTrace(t, b, drawn("000000000000100000"), holes)
	wantTrace(t, b, drawn("111111111111011111"), hole)
}

func TestP10Speckle(t *testing.T) {
	const one, two, eight = "0,0 0,1 1,1 1,0 (2) ", "2,0 2,1 4,1 4,0 (4) ", "5,0 5,2 9,2 9,0 (16)"
	b := rows("101101111", "000001111")
	for n := 0; n <= 1024; n++ {
		want := ""
		switch {
		case n == 0:
			want = one + two + eight
		case n == 1:
			want = two + eight
		case n < 8:
			want = eight
		}
		wantTrace(t, b, speckled(n), want)
		wantTrace(t, allOf(32, 32, "0"), speckled(n), "")
	}
}

// Holes and what holds together at crossings are taken by their sizes too.
func TestP10SpeckleOfHolesAndCrossings(t *testing.T) {
	const round, hole, within = "0,0 0,5 5,5 5,0 (50)", " 1,1 4,1 4,4 1,4 (-18)", " 2,2 2,3 3,3 3,2 (2)"
	b := rows("11111", "10001", "10101", "10001", "11111")
	wantTrace(t, b, speckled(0), round+hole+within)
	wantTrace(t, b, speckled(1), round+hole)
	wantTrace(t, b, speckled(8), round+hole)
	wantTrace(t, b, speckled(9), round)
	wantTrace(t, b, speckled(24), round)
	wantTrace(t, b, speckled(25), "")
	wantTrace(t, rows("10", "01"), api.Options{Policy: api.Join, Speckle: 1}, "0,0 0,1 2,2 2,1 (4)")
	wantTrace(t, rows("10", "01"), api.Options{Policy: api.Join, Speckle: 2}, "")
	wantTrace(t, rows("10", "01"), api.Options{Policy: api.Part, Speckle: 1}, "")
}

func TestP10SpeckleOfTheGreatestSize(t *testing.T) {
	for _, o := range everyPolicy(allOf(32, 32, "1"), 1) {
		for _, n := range []int{0, 1, 1022, 1023, 1024} {
			o.Speckle = n
			if l := traceOf(t, allOf(32, 32, "1"), o); (len(l) == 1) != (n < 1024) {
				t.Errorf("Trace(32 times 32, %s) = %s", optionsOf(o), told(l))
			}
		}
	}
	for _, n := range []int{1025, 1026, 2048, -1} {
		wantRefused(t, allOf(32, 32, "1"), speckled(n))
	}
}

// The polygons come as their cycles do, with none between them left out but speckles.
func TestP10Order(t *testing.T) {
	wantTrace(t, rows("001", "000", "100"), joined, "2,0 2,1 3,1 3,0 (2) 0,2 0,3 1,3 1,2 (2)")
	wantTrace(t, rows("00101"), joined, "2,0 2,1 3,1 3,0 (2) 4,0 4,1 5,1 5,0 (2)")
	wantTrace(t, rows("00110", "00000", "10011"), speckled(1), "2,0 2,1 4,1 4,0 (4) 3,2 3,3 5,3 5,2 (4)")
}
