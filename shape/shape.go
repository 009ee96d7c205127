// Package shape tells what belongs to a closed row of straight lines.
package shape

import "outline/api"

// Twice answers twice the area that the points go round, above 0 if it lies on the left.
func Twice(points []api.Point) int {
	if len(points) == 0 {
		return 0
	}
	sum := 0
	from := points[len(points)-1]
	for i := 0; i < len(points); i++ {
		to := points[i]
		sum += from.Y*to.X - from.X*to.Y
		from = to
	}
	return sum
}
