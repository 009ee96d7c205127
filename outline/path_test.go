package outline

import (
	"fmt"
	"math"
	"strings"
	"testing"

	"outline/api"
)

// through answers the shape of the points that the numbers name, two by two. Its Twice is wrong for most: Path and Fill must not look at it.
func through(xy ...int) api.Shape {
	s := api.Shape{Twice: -77}
	for i := 0; i < len(xy); i += 2 {
		s.Points = append(s.Points, api.Point{X: xy[i], Y: xy[i+1]})
	}
	return s
}

func shapes(l ...api.Shape) []api.Shape {
	return l
}

func wantPath(t *testing.T, l []api.Shape, want string) {
	t.Helper()
	if path, errno := Path(l); path != want || errno != api.OK {
		t.Errorf("Path(%.200s) = %.200q, %d, want %.200q, 0", told(l), path, errno, want)
	}
}

// wantNoPath asks Fill too, as it takes what Path takes.
func wantNoPath(t *testing.T, l []api.Shape) {
	t.Helper()
	if path, errno := Path(l); path != "" || errno != api.ErrArg {
		t.Errorf("Path(%.200s) = %.200q, %d, want nothing, ErrArg", told(l), path, errno)
	}
	for _, rule := range []int{api.NonZero, api.Odd} {
		wantNotFilled(t, l, 1, 1, rule)
		wantNotFilled(t, l, 32, 32, rule)
	}
}

func TestP11Example(t *testing.T) {
	wantPath(t, shapes(through(0, 0, 0, 1, 1, 1)), "M0 0L0 1L1 1z")
}

func TestP11NoShapes(t *testing.T) {
	wantPath(t, nil, "")
	wantPath(t, []api.Shape{}, "")
	wantPath(t, shapes(through(1, 1))[:0], "")
}

func TestP11ShapesOfFewPoints(t *testing.T) {
	wantPath(t, shapes(through(0, 0)), "M0 0z")
	wantPath(t, shapes(through(32, 32)), "M32 32z")
	wantPath(t, shapes(through(0, 32)), "M0 32z")
	wantPath(t, shapes(through(7, 10, 7, 10)), "M7 10L7 10z")
	wantPath(t, shapes(through(20, 3, 0, 0)), "M20 3L0 0z")
}

func TestP11SeveralShapes(t *testing.T) {
	wantPath(t, shapes(through(1, 2, 3, 4), through(10, 32)), "M1 2L3 4zM10 32z")
	wantPath(t, shapes(through(10, 32), through(1, 2, 3, 4)), "M10 32zM1 2L3 4z")
	s := through(0, 0, 0, 1, 1, 1)
	wantPath(t, shapes(s, s, s), strings.Repeat("M0 0L0 1L1 1z", 3))
}

func TestP11EveryCoordinate(t *testing.T) {
	for x := 0; x <= api.MaxSide; x++ {
		for y := 0; y <= api.MaxSide; y++ {
			wantPath(t, shapes(through(x, y)), fmt.Sprintf("M%d %dz", x, y))
			wantPath(t, shapes(through(1, 2, x, y, 3, 4), through(y, x)), fmt.Sprintf("M1 2L%d %dL3 4zM%d %dz", x, y, y, x))
		}
	}
}

func TestP11TwiceIsNotLookedAt(t *testing.T) {
	for _, twice := range []int{math.MinInt, -1, 0, 1, 2, 33, math.MaxInt} {
		s := through(0, 0, 0, 1, 1, 1)
		s.Twice = twice
		wantPath(t, shapes(s), "M0 0L0 1L1 1z")
		wantFilled(t, shapes(through(0, 0, 0, 1, 1, 1, 1, 0), s), rows("1"))
	}
}

func TestP11ShapesWithoutPoints(t *testing.T) {
	full := through(0, 0, 0, 1, 1, 1)
	for _, none := range []api.Shape{{}, {Points: []api.Point{}}, {Points: full.Points[:0]}, {Twice: 1}} {
		wantNoPath(t, shapes(none))
		wantNoPath(t, shapes(none, none))
		wantNoPath(t, shapes(none, full))
		wantNoPath(t, shapes(full, none))
		wantNoPath(t, shapes(full, none, full))
	}
}

func TestP11CoordinatesBeyond(t *testing.T) {
	for _, n := range []int{math.MinInt, -1 << 32, -33, -32, -2, -1, 33, 34, 64, 255, 256, 1 << 31, 1 << 32, 1<<32 + 1, 1 << 62, math.MaxInt} {
		for _, p := range []api.Point{{X: n, Y: 0}, {X: 0, Y: n}, {X: n, Y: 32}, {X: 32, Y: n}, {X: n, Y: n}, {X: n, Y: -1}} {
			for at := 0; at < 4; at++ {
				s := through(0, 0, 0, 2, 2, 2, 2, 0)
				s.Points[at] = p
				wantNoPath(t, shapes(s))
				wantNoPath(t, shapes(through(1, 1), s, through(1, 1)))
				wantNoPath(t, shapes(s, api.Shape{}))
			}
			wantNoPath(t, shapes(api.Shape{Points: []api.Point{p}}))
		}
	}
}

// patternShapes answers so many shapes with coordinates of 0 to most, other ones for each seed.
func patternShapes(count, most, seed int) []api.Shape {
	n := uint32(seed)*2654435761 + 12345
	next := func(below int) int {
		n = n*1664525 + 1013904223
		return int(n>>16) % below
	}
	var l []api.Shape
	for i := 0; i < count; i++ {
		var s api.Shape
		for k := next(8); k >= 0; k-- {
			s.Points = append(s.Points, api.Point{X: next(most + 1), Y: next(most + 1)})
		}
		s.Twice = twiceOf(s)
		l = append(l, s)
	}
	return l
}

// spelt writes shapes as P11 says, with other means.
func spelt(l []api.Shape) string {
	var path strings.Builder
	for _, s := range l {
		var points []string
		for _, p := range s.Points {
			points = append(points, fmt.Sprintf("%d %d", p.X, p.Y))
		}
		path.WriteString("M" + strings.Join(points, "L") + "z")
	}
	return path.String()
}

func TestP11ManyShapes(t *testing.T) {
	for seed := 0; seed < 200; seed++ {
		l := patternShapes(seed%23, 32, seed)
		wantPath(t, l, spelt(l))
	}
	l := patternShapes(100000, 32, 7)
	wantPath(t, l, spelt(l))
	wantPath(t, shapes(api.Shape{Points: make([]api.Point, 500000)}), "M0 0"+strings.Repeat("L0 0", 499999)+"z")
}
