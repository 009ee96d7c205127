package paths

import (
	"outline/api"
	"outline/scan"
	"outline/shape"
)

// Read answers the shapes of a path, or the first thing that is wrong and its place.
//
// The functions below it answer a place too: with OK the one behind what they read, else that of what is wrong.
func Read(path string) ([]api.Shape, api.Errno, int) {
	var l []api.Shape
	at := skipBlanks(path, 0)
	for at < len(path) {
		points, behind, errno := readShape(path, at)
		if errno != api.OK {
			return nil, errno, behind
		}
		twice := shape.Twice(points)
		l = append(l, api.Shape{Points: points, Twice: twice})
		at = skipBlanks(path, behind)
	}
	return l, api.OK, 0
}

func readShape(path string, at int) ([]api.Point, int, api.Errno) {
	var points []api.Point
	letter := byte('M')
	for scan.IsAt(path, at, letter) {
		p, behind, errno := readPoint(path, at+1)
		if errno != api.OK {
			return nil, behind, errno
		}
		points = append(points, p)
		at = skipBlanks(path, behind)
		letter = 'L'
	}
	if len(points) == 0 || !scan.IsAt(path, at, 'z') {
		errno := scan.WrongAt(path, at)
		return nil, at, errno
	}
	return points, at + 1, api.OK
}

func readPoint(path string, at int) (api.Point, int, api.Errno) {
	x, at, errno := readNumber(path, at)
	if errno != api.OK {
		return api.Point{}, at, errno
	}
	if !isBlank(path, at) {
		errno = scan.WrongAt(path, at)
		return api.Point{}, at, errno
	}
	y, at, errno := readNumber(path, at)
	if errno != api.OK {
		return api.Point{}, at, errno
	}
	return api.Point{X: x, Y: y}, at, api.OK
}

// readNumber reads a coordinate, and the blanks ahead of it.
func readNumber(path string, at int) (int, int, api.Errno) {
	first := skipBlanks(path, at)
	n, behind := scan.Number(path, first)
	if behind == first {
		errno := scan.WrongAt(path, first)
		return 0, first, errno
	}
	if n > api.MaxSide {
		return 0, first, api.ErrSide
	}
	return n, behind, api.OK
}

func skipBlanks(path string, at int) int {
	for isBlank(path, at) {
		at++
	}
	return at
}

// isBlank says no to tabs and carriage returns: they may stand in files alone.
func isBlank(path string, at int) bool {
	return scan.IsAt(path, at, ' ') || scan.IsAt(path, at, '\n')
}
