package outline

import (
	"strings"
	"testing"

	"outline/api"
)

func rows(l ...string) api.Bitmap {
	return api.Bitmap{W: len(l[0]), H: len(l), Bits: strings.Join(l, "")}
}

// pattern answers a bitmap whose pixels have no short period, another one for each seed.
func pattern(w, h, seed int) api.Bitmap {
	var bits strings.Builder
	n := uint32(seed)*2654435761 + 12345
	for i := 0; i < w*h; i++ {
		n = n*1664525 + 1013904223
		bits.WriteByte('0' + byte(n>>31))
	}
	return api.Bitmap{W: w, H: h, Bits: bits.String()}
}

func wantBitmap(t *testing.T, file string, want api.Bitmap) {
	t.Helper()
	b, errno, at := Read(file)
	if b != want || errno != api.OK || at != 0 {
		t.Errorf("Read(%.60q) = %+v, %d, %d, want %+v, 0, 0", file, b, errno, at, want)
	}
}

func wantError(t *testing.T, file string, want api.Errno, place int) {
	t.Helper()
	b, errno, at := Read(file)
	if b != (api.Bitmap{}) || errno != want || at != place {
		t.Errorf("Read(%.60q) = %+v, %d, %d, want nothing, %d, %d", file, b, errno, at, want, place)
	}
}

// allStrings uses all strings of at most n bytes out of the alphabet, each behind the start.
func allStrings(start, alphabet string, n int, use func(string)) {
	use(start)
	if n == 0 {
		return
	}
	for i := 0; i < len(alphabet); i++ {
		allStrings(start+alphabet[i:i+1], alphabet, n-1, use)
	}
}
