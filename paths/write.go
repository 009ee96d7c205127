// Package paths writes shapes as texts and reads them (P11, P12).
package paths

import (
	"strconv"

	"outline/api"
	"outline/shape"
)

// Write answers the path of shapes.
func Write(l []api.Shape) (string, api.Errno) {
	if !shape.MayBe(l) {
		return "", api.ErrArg
	}
	var path []byte
	for i := 0; i < len(l); i++ {
		one := shapeText(l[i].Points)
		path = append(path, one...)
	}
	return string(path), api.OK
}

func shapeText(points []api.Point) string {
	var text []byte
	letter := byte('M')
	for i := 0; i < len(points); i++ {
		one := pointText(points[i])
		text = append(text, letter)
		text = append(text, one...)
		letter = 'L'
	}
	text = append(text, 'z')
	return string(text)
}

func pointText(p api.Point) string {
	x := strconv.Itoa(p.X)
	y := strconv.Itoa(p.Y)
	return x + " " + y
}
