package scan

import (
	"math"
	"strings"
	"testing"

	"outline/api"
)

func TestIsAt(t *testing.T) {
	const text = "a1\x00"
	for at := -3; at <= 6; at++ {
		for c := 0; c < 256; c++ {
			want := at >= 0 && at < len(text) && int(text[at]) == c
			if got := IsAt(text, at, byte(c)); got != want {
				t.Errorf("IsAt(%q, %d, %d) = %v", text, at, c, got)
			}
		}
	}
	for _, at := range []int{math.MinInt, -1 << 32, 1 << 32, math.MaxInt} {
		if IsAt(text, at, 'a') || IsAt("", at, 0) {
			t.Errorf("something is at %d", at)
		}
	}
}

func wantNumber(t *testing.T, text string, first, want, behind int) {
	t.Helper()
	if n, at := Number(text, first); n != want || at != behind {
		t.Errorf("Number(%.60q, %d) = %d, %d, want %d, %d", text, first, n, at, want, behind)
	}
}

func TestNumber(t *testing.T) {
	wantNumber(t, "0", 0, 0, 1)
	wantNumber(t, "x12y", 1, 12, 3)
	wantNumber(t, "x12y", 2, 2, 3)
	wantNumber(t, "9 8", 0, 9, 1)
	wantNumber(t, "0032/", 0, 32, 4)
	wantNumber(t, "31:", 0, 31, 2)
	wantNumber(t, strings.Repeat("0", 5000)+"7", 0, 7, 5001)
}

func TestNumbersAboveMaxSideStayThere(t *testing.T) {
	for _, text := range []string{"33", "033", "40", "99", "100", "330", "4294967297", "18446744073709551617", strings.Repeat("9", 5000), "1" + strings.Repeat("0", 5000)} {
		wantNumber(t, text, 0, api.MaxSide+1, len(text))
		wantNumber(t, "M"+text+"z", 1, api.MaxSide+1, len(text)+1)
	}
}

func TestNoNumber(t *testing.T) {
	for c := 0; c < 256; c++ {
		if c < '0' || c > '9' {
			wantNumber(t, string([]byte{byte(c)})+"1", 0, 0, 0)
		}
	}
	for _, at := range []int{math.MinInt, -1 << 32, -1, 2, 3, 1 << 32, math.MaxInt} {
		wantNumber(t, "12", at, 0, at)
	}
}

func TestWrongAt(t *testing.T) {
	for at := 0; at < 3; at++ {
		if errno := WrongAt("abc", at); errno != api.ErrSyntax {
			t.Errorf("WrongAt(abc, %d) = %d", at, errno)
		}
	}
	for _, at := range []int{3, 4, math.MaxInt} {
		if errno := WrongAt("abc", at); errno != api.ErrShort {
			t.Errorf("WrongAt(abc, %d) = %d", at, errno)
		}
	}
}
