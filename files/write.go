package files

import (
	"strconv"

	"outline/api"
	"outline/bitmap"
)

// Write answers the P4 file of a bitmap.
func Write(b api.Bitmap) (string, api.Errno) {
	if !bitmap.IsOne(b) {
		return "", api.ErrArg
	}
	width := strconv.Itoa(b.W)
	height := strconv.Itoa(b.H)
	file := "P4\n" + width + " " + height + "\n"
	for y := 0; y < b.H; y++ {
		file += packRow(b.Bits[y*b.W : (y+1)*b.W])
	}
	return file, api.OK
}

func packRow(row string) string {
	var packed []byte
	for x := 0; x < len(row); x += 8 {
		packed = append(packed, packByte(row, x))
	}
	return string(packed)
}

// packByte packs the 8 pixels from first on; what is beyond the row is 0.
func packByte(row string, first int) byte {
	packed := byte(0)
	for x := first; x < first+8; x++ {
		packed *= 2
		if x < len(row) && row[x] == '1' {
			packed++
		}
	}
	return packed
}
