// Package files reads bitmaps from files and writes them (P3 to P5).
package files

import (
	"outline/api"
	"outline/scan"
)

// head is what stands ahead of the pixels.
type head struct {
	kind byte // what stands behind the P: '1' or '4'
	w, h int
}

// Read answers the bitmap of a file, or the first thing that is wrong and its place.
//
// The functions below it answer a place too: with OK the one behind what they read, else that of what is wrong.
func Read(file string) (api.Bitmap, api.Errno, int) {
	top, at, errno := readHead(file)
	if errno != api.OK {
		return api.Bitmap{}, errno, at
	}
	bits, at, errno := readPixels(file, at, top)
	if errno != api.OK {
		return api.Bitmap{}, errno, at
	}
	return api.Bitmap{W: top.w, H: top.h, Bits: bits}, api.OK, 0
}

func readHead(file string) (head, int, api.Errno) {
	kind, at, errno := readKind(file)
	if errno != api.OK {
		return head{}, at, errno
	}
	w, at, errno := readSide(file, at)
	if errno != api.OK {
		return head{}, at, errno
	}
	h, at, errno := readSide(file, at)
	if errno != api.OK {
		return head{}, at, errno
	}
	return head{kind: kind, w: w, h: h}, at, api.OK
}

func readKind(file string) (byte, int, api.Errno) {
	if len(file) < 1 || file[0] != 'P' {
		return 0, 0, scan.WrongAt(file, 0)
	}
	if len(file) < 2 || (file[1] != '1' && file[1] != '4') {
		return 0, 1, scan.WrongAt(file, 1)
	}
	return file[1], 2, api.OK
}

// readSide reads a gap, and the width or height behind it.
func readSide(file string, at int) (int, int, api.Errno) {
	first := skipGap(file, at)
	if first == at {
		return 0, at, scan.WrongAt(file, at)
	}
	return readNumber(file, first)
}

func readNumber(file string, first int) (int, int, api.Errno) {
	n, at := scan.Number(file, first)
	if at == first {
		return 0, at, scan.WrongAt(file, at)
	}
	if n == 0 || n > api.MaxSide {
		return 0, first, api.ErrSide
	}
	return n, at, api.OK
}

func readPixels(file string, at int, top head) (string, int, api.Errno) {
	if top.kind == '1' {
		return readPlain(file, at, top.w*top.h)
	}
	return readPacked(file, at, top.w, top.h)
}

// readPlain reads the n pixels of a P1 file.
func readPlain(file string, at int, n int) (string, int, api.Errno) {
	var bits []byte
	for i := 0; i < n; i++ {
		at = skipBlanks(file, at)
		if at >= len(file) || (file[at] != '0' && file[at] != '1') {
			return "", at, scan.WrongAt(file, at)
		}
		bits = append(bits, file[at])
		at++
	}
	return string(bits), at, api.OK
}

// readPacked reads the pixels of a P4 file, and the one byte ahead of them.
func readPacked(file string, at int, w int, h int) (string, int, api.Errno) {
	if at >= len(file) || !isBlank(file[at]) {
		return "", at, scan.WrongAt(file, at)
	}
	at++
	rowBytes := (w + 7) / 8
	if len(file)-at < rowBytes*h {
		return "", len(file), api.ErrShort
	}
	bits := ""
	for y := 0; y < h; y++ {
		bits += unpackRow(file[at:at+rowBytes], w)
		at += rowBytes
	}
	return bits, at, api.OK
}

// unpackRow answers the row's first w pixels, or as many as it has.
func unpackRow(row string, w int) string {
	var bits []byte
	for x := 0; x < w && x/8 < len(row); x++ {
		bit := (row[x/8] >> (7 - x%8)) & 1
		bits = append(bits, '0'+bit)
	}
	return string(bits)
}

// skipGap answers the first place that is in no gap. A comment that is not closed goes on to the end: there the file is too short, as it should be.
func skipGap(file string, at int) int {
	comment := false
	for at < len(file) && (comment || file[at] == '#' || isBlank(file[at])) {
		if file[at] == '#' {
			comment = true
		}
		if file[at] == '\n' {
			comment = false
		}
		at++
	}
	return at
}

func skipBlanks(file string, at int) int {
	for at < len(file) && isBlank(file[at]) {
		at++
	}
	return at
}

func isBlank(c byte) bool {
	return c == ' ' || c == '\n' || c == '\t' || c == '\r'
}
