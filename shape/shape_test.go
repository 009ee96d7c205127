package shape

import (
	"fmt"
	"testing"

	"outline/api"
)

func TestTwice(t *testing.T) {
	for _, c := range []struct {
		points []api.Point
		twice  int
	}{
		{nil, 0},
		{[]api.Point{}, 0},
		{[]api.Point{{X: 3, Y: 5}}, 0},
		{[]api.Point{{X: 3, Y: 5}, {X: 1, Y: 2}}, 0},
		{[]api.Point{{X: 0, Y: 0}, {X: 0, Y: 1}, {X: 1, Y: 1}, {X: 1, Y: 0}}, 2},
		{[]api.Point{{X: 0, Y: 0}, {X: 1, Y: 0}, {X: 1, Y: 1}, {X: 0, Y: 1}}, -2},
		{[]api.Point{{X: 0, Y: 0}, {X: 0, Y: 1}, {X: 1, Y: 1}}, 1},
		{[]api.Point{{X: 5, Y: 7}, {X: 5, Y: 9}, {X: 8, Y: 9}, {X: 8, Y: 7}}, 12},
		{[]api.Point{{X: 0, Y: 0}, {X: 0, Y: 32}, {X: 32, Y: 32}, {X: 32, Y: 0}}, 2048},
		// An eight: what it goes round on the left and on the right cancel out.
		{[]api.Point{{X: 0, Y: 0}, {X: 1, Y: 1}, {X: 1, Y: 0}, {X: 0, Y: 1}}, 0},
	} {
		if got := Twice(c.points); got != c.twice {
			t.Errorf("Twice(%v) = %d, want %d", c.points, got, c.twice)
		}
	}
}

func points(xy ...int) []api.Point {
	var l []api.Point
	for i := 0; i < len(xy); i += 2 {
		l = append(l, api.Point{X: xy[i], Y: xy[i+1]})
	}
	return l
}

// wantWinding wants the numbers at the pixels of a rectangle, row by row from 0,0 on, and 0 right beyond it.
func wantWinding(t *testing.T, l []api.Point, rows ...[]int) {
	t.Helper()
	for y := -1; y <= len(rows); y++ {
		for x := -1; x <= 5; x++ {
			want := 0
			if y >= 0 && y < len(rows) && x >= 0 && x < len(rows[y]) {
				want = rows[y][x]
			}
			if got := Winding(l, x, y); got != want {
				t.Errorf("Winding(%v, %d, %d) = %d, want %d", l, x, y, got, want)
			}
		}
	}
}

func TestWinding(t *testing.T) {
	wantWinding(t, nil)
	wantWinding(t, points(1, 1))
	wantWinding(t, points(0, 0, 3, 1))
	wantWinding(t, points(0, 0, 0, 1, 1, 1, 1, 0), []int{1})
	wantWinding(t, points(0, 0, 1, 0, 1, 1, 0, 1), []int{-1})
	wantWinding(t, points(1, 1, 1, 2, 3, 2, 3, 1), nil, []int{0, 1, 1})
	// Twice round.
	wantWinding(t, points(0, 0, 0, 2, 2, 2, 2, 0, 0, 0, 0, 1, 1, 1, 1, 0), []int{2, 1}, []int{1, 1})
	wantWinding(t, points(0, 0, 0, 1, 3, 3, 3, 2), []int{1}, []int{0, 1}, []int{0, 0, 1})
	// An eight, with a line through middles: that is not to the right of them.
	wantWinding(t, points(0, 0, 4, 4, 4, 0, 0, 3), []int{0, 0, 0, 1}, []int{-1, 0, 1, 1}, []int{-1, 0, 1, 1}, []int{0, 0, 0, 1})
	wantWinding(t, points(0, 3, 4, 0, 4, 4, 0, 0), []int{0, 0, 0, -1}, []int{1, 0, -1, -1}, []int{1, 0, -1, -1}, []int{0, 0, 0, -1})
}

// Through how many middles a line goes, and through which, hangs neither on its way up or down nor to the left or right.
func TestGoesThrough(t *testing.T) {
	for _, c := range []struct {
		to      api.Point
		middles string
	}{
		{api.Point{X: 0, Y: 0}, ""},
		{api.Point{X: 4, Y: 0}, ""},
		{api.Point{X: 0, Y: 4}, ""},
		{api.Point{X: 1, Y: 1}, "0,0 "},
		{api.Point{X: 3, Y: 3}, "0,0 1,1 2,2 "},
		{api.Point{X: 2, Y: 1}, ""},
		{api.Point{X: 1, Y: 2}, ""},
		{api.Point{X: 3, Y: 1}, "1,0 "},
		{api.Point{X: 1, Y: 3}, "0,1 "},
		{api.Point{X: 2, Y: 6}, "0,1 1,4 "},
		{api.Point{X: 5, Y: 3}, "2,1 "},
		{api.Point{X: 6, Y: 4}, ""},
	} {
		for _, from := range points(0, 0, 7, 5, 20, 20) {
			for _, way := range points(1, 1, 1, -1, -1, 1, -1, -1) {
				to := api.Point{X: from.X + way.X*c.to.X, Y: from.Y + way.Y*c.to.Y}
				if got := middles(from, to, way); got != c.middles {
					t.Errorf("from %v to %v: %s, want %s", from, to, got, c.middles)
				}
				if got := middles(to, from, points(-way.X, -way.Y)[0]); len(got) != len(c.middles) {
					t.Errorf("from %v to %v: %s, as many as %s", to, from, got, c.middles)
				}
			}
		}
	}
}

// middles tells the pixels through whose middles the line goes, as far off as they are if one looks along it.
func middles(from, to, way api.Point) string {
	text := ""
	for y := -8; y <= 8; y++ {
		for x := -8; x <= 8; x++ {
			// A pixel that lies ahead, upward or to the left, begins one before its end.
			if GoesThrough(from, to, from.X+way.X*x+(way.X-1)/2, from.Y+way.Y*y+(way.Y-1)/2) {
				text += fmt.Sprintf("%d,%d ", x, y)
			}
		}
	}
	return text
}

func TestMayBe(t *testing.T) {
	one := api.Shape{Points: points(0, 0, 32, 32, 0, 32)}
	for _, l := range [][]api.Shape{nil, {}, {one}, {one, one}, {{Points: points(32, 0)}}, {{Points: points(0, 32), Twice: 5}, one}} {
		if !MayBe(l) {
			t.Errorf("MayBe says no to %v", l)
		}
	}
	for _, wrong := range [][]api.Point{nil, {}, points(-1, 0), points(0, -1), points(33, 0), points(0, 33), points(0, 0, 33, 1), points(0, 0, 1, 33, 2, 2), points(0, 0, 2, 2, 1, -1)} {
		s := api.Shape{Points: wrong}
		for _, l := range [][]api.Shape{{s}, {s, one}, {one, s}, {one, s, one}} {
			if MayBe(l) {
				t.Errorf("MayBe takes %v", l)
			}
		}
	}
}
