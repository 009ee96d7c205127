package polygons

import "outline/api"

// row is the best row of lines from a point of a cycle to the cycle's end.
type row struct {
	lines int
	cost  int
	span  int // how many sides the first line stands for
}

// corners answers the points of a cycle at which the lines of its polygon begin.
func corners(cycle []api.Point) []api.Point {
	round := closed(cycle)
	rows := bestRows(round)
	var l []api.Point
	next := 0
	for i := 0; i < len(cycle) && i < len(rows); i++ {
		if i == next {
			l = append(l, cycle[i])
			next = i + rows[len(rows)-1-i].span
		}
	}
	return l
}

// closed answers the points of a cycle and the first of them again, where the last line ends. It is a new list: what is behind the cycle is not ours to write into.
func closed(cycle []api.Point) []api.Point {
	var round []api.Point
	for i := 0; i < len(cycle); i++ {
		round = append(round, cycle[i])
	}
	if len(cycle) > 0 {
		round = append(round, cycle[0])
	}
	return round
}

// bestRows answers the best rows from all points, the one from the last point first: each is made of those from the points behind it.
func bestRows(round []api.Point) []row {
	var rows []row
	for i := len(round) - 1; i >= 0; i-- {
		best := bestRow(round[i:], rows)
		rows = append(rows, best)
	}
	return rows
}

// bestRow answers the best row from the first of the points; behind are those from the other points, the one from the last point first.
//
// Short lines are tried first, so that of rows that are as good the one stays whose first corner comes first.
func bestRow(points []api.Point, behind []row) row {
	var best row
	for span := 1; span <= api.MaxSpan && span < len(points) && span <= len(behind); span++ {
		line := points[:span+1]
		if !fits(line) {
			continue
		}
		r := behind[len(behind)-span]
		r.lines++
		r.cost += cost(line)
		r.span = span
		if span == 1 || isBetter(r, best) {
			best = r
		}
	}
	return best
}

func isBetter(r row, than row) bool {
	if r.lines != than.lines {
		return r.lines < than.lines
	}
	return r.cost < than.cost
}
