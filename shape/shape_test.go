package shape

import (
	"testing"

	"outline/api"
)

func TestTwice(t *testing.T) {
	for _, c := range []struct {
		points []api.Point
		twice  int
	}{
		{nil, 0},
		{[]api.Point{}, 0},
		{[]api.Point{{X: 3, Y: 5}}, 0},
		{[]api.Point{{X: 3, Y: 5}, {X: 1, Y: 2}}, 0},
		{[]api.Point{{X: 0, Y: 0}, {X: 0, Y: 1}, {X: 1, Y: 1}, {X: 1, Y: 0}}, 2},
		{[]api.Point{{X: 0, Y: 0}, {X: 1, Y: 0}, {X: 1, Y: 1}, {X: 0, Y: 1}}, -2},
		{[]api.Point{{X: 0, Y: 0}, {X: 0, Y: 1}, {X: 1, Y: 1}}, 1},
		{[]api.Point{{X: 5, Y: 7}, {X: 5, Y: 9}, {X: 8, Y: 9}, {X: 8, Y: 7}}, 12},
		{[]api.Point{{X: 0, Y: 0}, {X: 0, Y: 32}, {X: 32, Y: 32}, {X: 32, Y: 0}}, 2048},
		// An eight: what it goes round on the left and on the right cancel out.
		{[]api.Point{{X: 0, Y: 0}, {X: 1, Y: 1}, {X: 1, Y: 0}, {X: 0, Y: 1}}, 0},
	} {
		if got := Twice(c.points); got != c.twice {
			t.Errorf("Twice(%v) = %d, want %d", c.points, got, c.twice)
		}
	}
}
