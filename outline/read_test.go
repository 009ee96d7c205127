package outline

import (
	"strconv"
	"strings"
	"testing"

	"outline/api"
)

func TestP3Examples(t *testing.T) {
	wantBitmap(t, "P1\n2 1\n1 0", rows("10"))
	wantBitmap(t, "P1 2 1 012", rows("01"))
	wantBitmap(t, "P1#c\n1 1 1", rows("1"))
}

func TestP3Gaps(t *testing.T) {
	gaps := []string{" ", "\n", "\t", "\r", "#\n", "# 7 x#\n", "#\r\n", "#a\rb\n", " \t\r\n", "#a\n#b\n", " #P1 9 9\n ", "\n#\x00\xff\n\t"}
	for _, first := range gaps {
		for _, second := range gaps {
			wantBitmap(t, "P1"+first+"3"+second+"2\n101011", rows("101", "011"))
			wantBitmap(t, "P4"+first+"3"+second+"2\n\xa0\x60", rows("101", "011"))
		}
	}
}

func TestP3NumbersOfAnyDigits(t *testing.T) {
	for _, noughts := range []string{"", "0", "00", strings.Repeat("0", 30), strings.Repeat("0", 100000)} {
		wantBitmap(t, "P1 "+noughts+"2 "+noughts+"1 01", rows("01"))
		wantBitmap(t, "P4 "+noughts+"2 "+noughts+"1 \x40", rows("01"))
		wantBitmap(t, "P1 "+noughts+"10 1 0110111011", rows("0110111011"))
	}
}

func TestP3EverySize(t *testing.T) {
	for w := 1; w <= api.MaxSide; w++ {
		for h := 1; h <= api.MaxSide; h++ {
			b := pattern(w, h, w*100+h)
			head := strconv.Itoa(w) + " " + strconv.Itoa(h) + "\n"
			wantBitmap(t, "P1 "+head+b.Bits, b)
			wantBitmap(t, "P4 "+head+packed(b, "0"), b)
			wantBitmap(t, "P4 "+head+packed(b, "1"), b)
		}
	}
}

// packed answers the rows of a P4 file, with over in the bits that are over.
func packed(b api.Bitmap, over string) string {
	file := ""
	for y := 0; y < b.H; y++ {
		row := b.Bits[y*b.W : (y+1)*b.W]
		for len(row)%8 != 0 {
			row += over
		}
		for ; row != ""; row = row[8:] {
			n, _ := strconv.ParseUint(row[:8], 2, 8)
			file += string([]byte{byte(n)})
		}
	}
	return file
}

func TestP3BlanksAheadOfPixels(t *testing.T) {
	for _, blanks := range []string{"", " ", "\n", "\t", "\r", " \r\n\t ", strings.Repeat("\n", 10000)} {
		wantBitmap(t, "P1 2 2 "+blanks+"1"+blanks+"0"+blanks+"1"+blanks+"1", rows("10", "11"))
		wantBitmap(t, "P1 2 2\n"+blanks+"10"+blanks+"11"+blanks, rows("10", "11"))
	}
}

func TestP3OneByteAheadOfPackedPixels(t *testing.T) {
	for _, blank := range []string{" ", "\n", "\t", "\r"} {
		wantBitmap(t, "P4 8 1"+blank+"\x81", rows("10000001"))
		// A second blank is a row of pixels.
		wantBitmap(t, "P4 8 1"+blank+" \x81", rows("00100000"))
		wantBitmap(t, "P4 8 1"+blank+"#\n\x81", rows("00100011"))
	}
}

func TestP3WhatStandsBehindThePixels(t *testing.T) {
	for _, rest := range []string{"", " ", "0", "1", "2", "#", "x", "\x00\xff", "P1 1 1 0"} {
		wantBitmap(t, "P1 2 1 01"+rest, rows("01"))
		wantBitmap(t, "P4 2 1 \x40"+rest, rows("01"))
	}
}

func TestP4Examples(t *testing.T) {
	wantError(t, "P2 1 1 0", api.ErrSyntax, 1)
	wantError(t, "P1 0 1", api.ErrSide, 3)
	wantError(t, "P1 1 33", api.ErrSide, 5)
	wantError(t, "P1 1", api.ErrShort, 4)
	wantError(t, "P1 1 1 x", api.ErrSyntax, 7)
	wantError(t, "P1 999", api.ErrSide, 3)
}

func TestP4EndsTooEarlyAtEachPlace(t *testing.T) {
	for _, file := range []string{"P1#c\n 03\t#d\r\n\r02\n1 0\t1\r\n011", "P4#c\n 003\t#d\r\n\r02\n\xa0\x60", "P4 32 3 abcdefghijkl", "P1\n9\n1\n111111111"} {
		if _, errno, _ := Read(file); errno != api.OK {
			t.Fatalf("Read(%q) = %d", file, errno)
		}
		for n := 0; n < len(file); n++ {
			part := file[:n]
			if isNoughts(part) {
				continue // Then the side is 0: it is tested below.
			}
			wantError(t, part, api.ErrShort, n)
		}
	}
}

// isNoughts tells whether a text ends in a number that is 0.
func isNoughts(text string) bool {
	less := strings.TrimRight(text, "0")
	return less != text && strings.TrimRight(less, "0123456789") == less
}

func TestP4WrongByteAtEachPlace(t *testing.T) {
	places := []struct {
		start string // a file up to the place
		may   string // the bytes that may stand there
	}{
		{"", "P"}, {"P", "14"},
		{"P1", " \n\t\r#"}, {"P4", " \n\t\r#"},
		{"P1 ", " \n\t\r#0123456789"}, {"P4 #c\n", " \n\t\r#0123456789"},
		{"P1 3", " \n\t\r#0123456789"}, {"P4 3", " \n\t\r#0123456789"},
		{"P1 3 ", " \n\t\r#0123456789"}, {"P4 3#\n", " \n\t\r#0123456789"},
		{"P1 3 2", " \n\t\r0123456789"}, {"P4 3 2", " \n\t\r0123456789"},
		{"P1 3 2 ", " \n\t\r01"}, {"P1 3 2 1", " \n\t\r01"}, {"P1 3 2 1 0\n", " \n\t\r01"}, {"P1 3 2 10110", " \n\t\r01"},
	}
	for _, p := range places {
		for c := 0; c < 256; c++ {
			file := p.start + string([]byte{byte(c)})
			_, errno, _ := Read(file)
			if strings.IndexByte(p.may, byte(c)) < 0 {
				wantError(t, file, api.ErrSyntax, len(p.start))
				wantError(t, file+" 1 1 1", api.ErrSyntax, len(p.start))
			} else if errno == api.ErrSyntax {
				t.Errorf("Read(%q): the last byte may stand there", file)
			}
		}
	}
}

func TestP4NoCommentsAmongPixels(t *testing.T) {
	wantError(t, "P1 1 1#\n1", api.ErrSyntax, 6)
	wantError(t, "P1 1 1 #\n1", api.ErrSyntax, 7)
	wantError(t, "P1 2 1 1#\n1", api.ErrSyntax, 8)
	wantError(t, "P4 1 1#\n\x80", api.ErrSyntax, 6)
}

func TestP4CommentThatIsNotClosed(t *testing.T) {
	for _, start := range []string{"P1", "P4", "P1 ", "P1 1", "P4 1 "} {
		for _, comment := range []string{"#", "# 1 1 1", "#\r1 1 1", "#\t", "##"} {
			wantError(t, start+comment, api.ErrShort, len(start+comment))
		}
	}
}

func TestP4Sides(t *testing.T) {
	wrong := []string{"0", "00", "000", "33", "033", "40", "99", "100", "320", "330", "999", "4294967297", "18446744073709551617", "340282366920938463463374607431768211457", strings.Repeat("0", 99999), strings.Repeat("0", 99999) + "33", "1" + strings.Repeat("0", 99999), strings.Repeat("9", 99999)}
	for _, n := range wrong {
		for _, start := range []string{"P1 ", "P4#c\n", "P1 1 ", "P4 32#\n"} {
			for _, rest := range []string{"", " ", "#", "x", "-1", " 0 1", " 1 1 1", "\xff"} {
				wantError(t, start+n+rest, api.ErrSide, len(start))
			}
		}
	}
	// A side that may be is passed, and what is wrong behind it is told.
	for n := 1; n <= api.MaxSide; n++ {
		side := strconv.Itoa(n)
		wantError(t, "P1 "+side, api.ErrShort, len("P1 "+side))
		wantError(t, "P1 "+side+"x", api.ErrSyntax, len("P1 "+side))
		wantError(t, "P1 1 "+side+"x", api.ErrSyntax, len("P1 1 "+side))
	}
	wantError(t, "P1 33 0 x", api.ErrSide, 3)
	wantError(t, "P1 +1 1 1", api.ErrSyntax, 3)
	wantError(t, "P1 -1 1 1", api.ErrSyntax, 3)
}

func TestP4RowsThatAreMissing(t *testing.T) {
	for w := 1; w <= api.MaxSide; w++ {
		head := "P4 " + strconv.Itoa(w) + " 3 "
		need := 3 * ((w + 7) / 8)
		for n := 0; n < need; n++ {
			wantError(t, head+strings.Repeat("a", n), api.ErrShort, len(head)+n)
		}
	}
}
