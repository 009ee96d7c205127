// Package outline: bitmaps become polygons, and back again. See DOC.md.
package outline

import (
	"outline/api"
	"outline/cycles"
	"outline/files"
	"outline/fill"
	"outline/paths"
	"outline/polygons"
)

// Read reads a bitmap (P3, P4).
func Read(file string) (api.Bitmap, api.Errno, int) { return files.Read(file) }

// Write writes a bitmap (P5).
func Write(b api.Bitmap) (string, api.Errno) { return files.Write(b) }

// Cycles tells where black and white meet (P6, P7).
func Cycles(b api.Bitmap, o api.Options) ([]api.Shape, api.Errno) { return cycles.Find(b, o) }

// Trace makes polygons (P8 to P10).
func Trace(b api.Bitmap, o api.Options) ([]api.Shape, api.Errno) { return polygons.Find(b, o) }

// Path writes shapes (P11).
func Path(l []api.Shape) (string, api.Errno) { return paths.Write(l) }

// Shapes reads shapes (P12).
func Shapes(path string) ([]api.Shape, api.Errno, int) { return paths.Read(path) }

// Fill makes a bitmap of shapes (P13).
func Fill(l []api.Shape, w int, h int, rule int) (api.Bitmap, api.Errno) {
	return fill.Fill(l, w, h, rule)
}
