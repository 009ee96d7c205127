package outline

import (
	"math"
	"strconv"
	"strings"
	"testing"

	"outline/api"
)

func wantFile(t *testing.T, b api.Bitmap, want string) {
	t.Helper()
	file, errno := Write(b)
	if file != want || errno != api.OK {
		t.Errorf("Write(%+v) = %q, %d, want %q, 0", b, file, errno, want)
	}
}

func TestP5Files(t *testing.T) {
	wantFile(t, rows("101", "011"), "P4\n3 2\n\xa0\x60")
	wantFile(t, rows("0"), "P4\n1 1\n\x00")
	wantFile(t, rows("1"), "P4\n1 1\n\x80")
	wantFile(t, rows("1111111"), "P4\n7 1\n\xfe")
	wantFile(t, rows("10000001"), "P4\n8 1\n\x81")
	wantFile(t, rows("111111111", "000000001"), "P4\n9 2\n\xff\x80\x00\x80")
	wantFile(t, rows("0", "1", "0"), "P4\n1 3\n\x00\x80\x00")
}

func TestP5EverySize(t *testing.T) {
	for w := 1; w <= api.MaxSide; w++ {
		for h := 1; h <= api.MaxSide; h++ {
			head := "P4\n" + strconv.Itoa(w) + " " + strconv.Itoa(h) + "\n"
			black := api.Bitmap{W: w, H: h, Bits: strings.Repeat("1", w*h)}
			for _, b := range []api.Bitmap{pattern(w, h, w*100+h), black} {
				wantFile(t, b, head+packed(b, "0"))
				file, _ := Write(b)
				wantBitmap(t, file, b)
			}
		}
	}
}

func TestP5NoBitmap(t *testing.T) {
	many := strings.Repeat("0", 33)
	wrong := []api.Bitmap{
		{}, {W: 1, H: 1}, {W: 1, H: 1, Bits: "00"}, {W: 2, H: 2, Bits: "000"}, {W: 2, H: 2, Bits: "00000"},
		{W: 0, H: 0}, {W: 0, H: 1}, {W: 1, H: 0}, {W: 0, H: 1, Bits: "0"}, {W: -1, H: -1, Bits: "0"}, {W: -1, H: 1, Bits: "0"},
		{W: 33, H: 1, Bits: many}, {W: 1, H: 33, Bits: many}, {W: 33, H: 33, Bits: strings.Repeat("0", 33*33)},
		{W: 1 << 62, H: 4}, {W: 4, H: 1 << 62}, {W: 1 << 32, H: 1 << 32}, {W: math.MaxInt, H: math.MaxInt, Bits: "0"}, {W: math.MinInt, H: math.MinInt},
	}
	for c := 0; c < 256; c++ {
		if c != '0' && c != '1' {
			byteOf := string([]byte{byte(c)})
			wrong = append(wrong, api.Bitmap{W: 1, H: 1, Bits: byteOf}, api.Bitmap{W: 3, H: 2, Bits: "01010" + byteOf})
		}
	}
	for _, b := range wrong {
		if file, errno := Write(b); file != "" || errno != api.ErrArg {
			t.Errorf("Write(%+v) = %q, %d, want nothing, ErrArg", b, file, errno)
		}
	}
}
