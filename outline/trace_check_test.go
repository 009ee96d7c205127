package outline

import (
	"math"
	"testing"

	"outline/api"
)

// wayOf tells the points from the first of them on, so that what is known of one way is known of all that are like it.
func wayOf(points []api.Point) string {
	var way []byte
	for i := 1; i < len(points); i++ {
		dx, dy := points[i].X-points[i-1].X, points[i].Y-points[i-1].Y
		way = append(way, "<v.^>"[2+2*dx-dy])
	}
	return string(way)
}

// known keeps what mayStand has found out, way by way.
var known = map[string]bool{}

// mayStand tells by P8 whether one line fits, from the first of the points to the last.
func mayStand(points []api.Point) bool {
	if len(points) == 2 {
		return true
	}
	way := wayOf(points)
	fits, found := known[way]
	if !found {
		fits = len(points)-1 <= api.MaxSpan && !throughMiddle(points[len(points)-1], points[0]) && roundNoMiddle(points)
		known[way] = fits
	}
	return fits
}

// throughMiddle: in the shortest steps that lead from point to point, a line is halfway at a middle if the step is odd in both directions, and else nowhere.
func throughMiddle(p, q api.Point) bool {
	dx, dy := q.X-p.X, q.Y-p.Y
	for n := api.MaxSpan; n > 1; n-- {
		if dx%n == 0 && dy%n == 0 {
			dx, dy = dx/n, dy/n
		}
	}
	return dx%2 != 0 && dy%2 != 0
}

// roundNoMiddle looks at all pixels that the points go round, and one more on each side.
func roundNoMiddle(points []api.Point) bool {
	low, high := points[0], points[0]
	for _, p := range points {
		low = api.Point{X: min(low.X, p.X), Y: min(low.Y, p.Y)}
		high = api.Point{X: max(high.X, p.X), Y: max(high.Y, p.Y)}
	}
	for y := low.Y - 1; y <= high.Y; y++ {
		for x := low.X - 1; x <= high.X; x++ {
			if turnsRound(points, x, y) != 0 {
				return false
			}
		}
	}
	return true
}

// turnsRound answers a winding number by adding up angles, as one sees them from the middle of the pixel.
func turnsRound(points []api.Point, x, y int) int {
	sum := 0.0
	for i, p := range points {
		q := points[(i+1)%len(points)]
		px, py := float64(p.X-x)-0.5, float64(p.Y-y)-0.5
		qx, qy := float64(q.X-x)-0.5, float64(q.Y-y)-0.5
		sum += math.Atan2(py*qx-px*qy, px*qx+py*qy)
	}
	return int(math.Round(sum / (2 * math.Pi)))
}

func costOf(points []api.Point) int {
	sum := 0
	a, c := points[0], points[len(points)-1]
	for _, p := range points {
		off := (c.X-a.X)*(p.Y-a.Y) - (c.Y-a.Y)*(p.X-a.X)
		sum += max(off, -off)
	}
	return sum
}

// numbers is a row of numbers, from 0 on, and what it costs.
type numbers struct {
	at   []int
	cost int
}

func (r numbers) and(points []api.Point, j int) numbers {
	i := r.at[len(r.at)-1]
	return numbers{append(append([]int(nil), r.at...), j), r.cost + costOf(points[i:j+1])}
}

// before tells whether P9 takes r rather than s.
func (r numbers) before(s numbers) bool {
	if len(r.at) != len(s.at) {
		return len(r.at) < len(s.at)
	}
	if r.cost != s.cost {
		return r.cost < s.cost
	}
	for k := range r.at {
		if r.at[k] != s.at[k] {
			return r.at[k] < s.at[k]
		}
	}
	return false
}

// bestNumbers goes from the start of the points to their end, with the best row up to each of them.
func bestNumbers(points []api.Point) numbers {
	best := []numbers{{at: []int{0}}}
	for j := 1; j < len(points); j++ {
		to := best[j-1].and(points, j)
		for i := max(0, j-api.MaxSpan); i < j-1; i++ {
			if mayStand(points[i : j+1]) {
				if r := best[i].and(points, j); r.before(to) {
					to = r
				}
			}
		}
		best = append(best, to)
	}
	return best[len(points)-1]
}

// everyRow uses each row that goes on from r to the end of the points, line by line that fits.
func everyRow(points []api.Point, r numbers, use func(numbers)) {
	i := r.at[len(r.at)-1]
	if i == len(points)-1 {
		use(r)
	}
	for j := i + 1; j < len(points); j++ {
		if mayStand(points[i : j+1]) {
			everyRow(points, r.and(points, j), use)
		}
	}
}

// polygonBy answers the polygon of a cycle, with the row that best finds.
func polygonBy(best func([]api.Point) numbers, cycle api.Shape) api.Shape {
	n := len(cycle.Points)
	round := append(append([]api.Point(nil), cycle.Points...), cycle.Points[0])
	var s api.Shape
	for _, i := range best(round).at {
		if i < n {
			s.Points = append(s.Points, cycle.Points[i])
		}
	}
	s.Twice = twiceOf(s)
	return s
}

// checkTrace holds an answer to P8, P9 and P10.
func checkTrace(t *testing.T, b api.Bitmap, o api.Options, best func([]api.Point) numbers) {
	t.Helper()
	var want []api.Shape
	for _, cycle := range cyclesOf(t, b, o) {
		if max(cycle.Twice, -cycle.Twice) > 2*o.Speckle {
			want = append(want, polygonBy(best, cycle))
		}
	}
	if got := told(traceOf(t, b, o)); got != told(want) {
		t.Fatalf("Trace(%+v, %s) = %s, want %s", b, optionsOf(o), got, told(want))
	}
	if o.Speckle == 0 {
		checkFilled(t, b, o)
	}
}

// checkFilled sees to it that the winding numbers together are 1 where b is black, and else 0: so both rules fill the polygons to b.
func checkFilled(t *testing.T, b api.Bitmap, o api.Options) {
	t.Helper()
	l := traceOf(t, b, o)
	for y := -1; y <= b.H; y++ {
		for x := -1; x <= b.W; x++ {
			sum := 0
			for _, s := range l {
				sum += timesRound(s, x, y)
			}
			if sum != blackPixel(b, x, y) {
				t.Fatalf("Trace(%+v, %s) = %s: the winding number is %d at pixel %d,%d", b, optionsOf(o), told(l), sum, x, y)
			}
		}
	}
}

// timesRound counts by the lines on the right, as the document does.
func timesRound(s api.Shape, x, y int) int {
	n := 0
	for _, l := range linesOf(s) {
		if (l.from.Y <= y) == (l.to.Y <= y) {
			continue
		}
		at := float64(l.from.X) + float64(l.to.X-l.from.X)*(float64(y-l.from.Y)+0.5)/float64(l.to.Y-l.from.Y)
		if at > float64(x)+0.5 && l.to.Y < l.from.Y {
			n++
		} else if at > float64(x)+0.5 {
			n--
		}
	}
	return n
}

// Of all rows there are the best one is taken, with nothing left to a clever search.
func TestP9AllRowsOfSmallBitmaps(t *testing.T) {
	best := func(points []api.Point) numbers {
		var best numbers
		everyRow(points, numbers{at: []int{0}}, func(r numbers) {
			if best.at == nil || r.before(best) {
				best = r
			}
		})
		return best
	}
	for _, size := range [][2]int{{1, 1}, {1, 7}, {7, 1}, {2, 4}, {4, 2}, {3, 3}} {
		seed := 0
		everyBitmap(size[0], size[1], func(b api.Bitmap) {
			seed++
			for _, o := range everyPolicy(b, seed) {
				checkTrace(t, b, o, best)
			}
		})
	}
}

func TestP9EverySmallBitmap(t *testing.T) {
	for _, size := range [][2]int{{2, 5}, {5, 2}, {4, 3}, {3, 4}} {
		seed := 0
		everyBitmap(size[0], size[1], func(b api.Bitmap) {
			seed++
			o := everyPolicy(b, seed)[seed%4]
			checkTrace(t, b, o, bestNumbers)
		})
	}
}

func TestP9GreaterBitmaps(t *testing.T) {
	seed := 0
	for _, size := range [][2]int{{5, 5}, {8, 6}, {7, 13}, {32, 1}, {1, 32}, {31, 2}, {32, 32}} {
		for eighths := 0; eighths <= 8; eighths++ {
			for n := 0; n < 2; n++ {
				seed += 3
				b := thick(size[0], size[1], seed, eighths)
				for _, o := range everyPolicy(b, seed) {
					o.Speckle = seed % 4
					checkTrace(t, b, o, bestNumbers)
				}
			}
		}
	}
}

// Where black ends at a slope there are long lines, through middles and beside them.
func TestP9Slopes(t *testing.T) {
	for dx := -7; dx <= 7; dx++ {
		for dy := -7; dy <= 7; dy++ {
			for add := 0; add < 8; add += 3 {
				checkTrace(t, inside(20, 18, func(x, y int) bool { return (x-9)*dx+(y-9)*dy < add }), joined, bestNumbers)
			}
		}
	}
}

func TestP9RoundThings(t *testing.T) {
	for size := 0; size < 450; size += 19 {
		b := inside(32, 30, func(x, y int) bool { return (x-15)*(x-15)+(y-14)*(y-14) < size })
		checkTrace(t, b, rare, bestNumbers)
		b = inside(32, 32, func(x, y int) bool { return (x-size%32)*(y-size%31)%(5+size%13) < 4 })
		for _, o := range everyPolicy(b, size) {
			checkTrace(t, b, o, bestNumbers)
		}
	}
}

// inside answers the bitmap of the pixels that are in.
func inside(w, h int, in func(x, y int) bool) api.Bitmap {
	bits := make([]byte, w*h)
	for i := range bits {
		bits[i] = '0'
		if in(i%w, i/w) {
			bits[i] = '1'
		}
	}
	return api.Bitmap{W: w, H: h, Bits: string(bits)}
}
