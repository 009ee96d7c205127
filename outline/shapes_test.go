package outline

import (
	"fmt"
	"regexp"
	"strconv"
	"strings"
	"testing"

	"outline/api"
)

func shapesOf(t *testing.T, path string) []api.Shape {
	t.Helper()
	l, errno, at := Shapes(path)
	if errno != api.OK || at != 0 {
		t.Fatalf("Shapes(%.200q) = %.200s, %d, %d", path, told(l), errno, at)
	}
	return l
}

// wantShapes wants shapes as told writes them.
func wantShapes(t *testing.T, path string, want string) {
	t.Helper()
	l, errno, at := Shapes(path)
	if told(l) != want || errno != api.OK || at != 0 {
		t.Errorf("Shapes(%.200q) = %.200s, %d, %d, want %.200s, 0, 0", path, told(l), errno, at, want)
	}
}

func wantNoShapes(t *testing.T, path string, want api.Errno, place int) {
	t.Helper()
	l, errno, at := Shapes(path)
	if len(l) != 0 || errno != want || at != place {
		t.Errorf("Shapes(%.200q) = %.200s, %d, %d, want nothing, %d, %d", path, told(l), errno, at, want, place)
	}
}

func TestP12Examples(t *testing.T) {
	wantShapes(t, " M 0 0 L0 1L1 1 z", "0,0 0,1 1,1 (1)")
	wantNoShapes(t, "M0 0", api.ErrShort, 4)
	wantNoShapes(t, "M0 0L1z", api.ErrSyntax, 6)
	wantNoShapes(t, "M0 33z", api.ErrSide, 3)
	wantNoShapes(t, "z", api.ErrSyntax, 0)
}

func TestP12NoShapes(t *testing.T) {
	for _, path := range []string{"", " ", "\n", "  \n\n ", strings.Repeat(" \n", 1000000)} {
		wantShapes(t, path, "")
	}
}

// A shape is read as it stands, also if it has one point, or the same one twice.
func TestP12ShapesAndTheirTwice(t *testing.T) {
	wantShapes(t, "M0 0z", "0,0 (0)")
	wantShapes(t, "M32 32z", "32,32 (0)")
	wantShapes(t, "M3 5L1 2z", "3,5 1,2 (0)")
	wantShapes(t, "M3 5L3 5z", "3,5 3,5 (0)")
	wantShapes(t, "M0 0L0 1L1 1L1 0z", "0,0 0,1 1,1 1,0 (2)")
	wantShapes(t, "M0 0L1 0L1 1L0 1z", "0,0 1,0 1,1 0,1 (-2)")
	wantShapes(t, "M5 7L5 9L8 9L8 7z", "5,7 5,9 8,9 8,7 (12)")
	wantShapes(t, "M0 0L0 32L32 32L32 0z", "0,0 0,32 32,32 32,0 (2048)")
	wantShapes(t, "M0 0L1 1L1 0L0 1z", "0,0 1,1 1,0 0,1 (0)")
	wantShapes(t, "M0 0L0 1L1 1zM1 2zM0 0L4 0L4 4z", "0,0 0,1 1,1 (1) 1,2 (0) 0,0 4,0 4,4 (-16)")
	wantShapes(t, "M1 2zM1 2zM1 2z", "1,2 (0) 1,2 (0) 1,2 (0)")
}

func TestP12EveryCoordinate(t *testing.T) {
	for x := 0; x <= api.MaxSide; x++ {
		for y := 0; y <= api.MaxSide; y++ {
			wantShapes(t, fmt.Sprintf("M%d %dz", x, y), fmt.Sprintf("%d,%d (0)", x, y))
			wantShapes(t, fmt.Sprintf("M0 0L%03d %05dL32 0z", x, y), fmt.Sprintf("0,0 %d,%d 32,0 (%d)", x, y, 32*y))
		}
	}
}

// pieces are those of a path ahead of which blanks may stand.
var pieces = []string{"M", "0", "12", "L", "3", "0", "L", "4", "05", "z", "M", "32", "6", "z"}

const piecesTold = "0,12 3,0 4,5 (-27) 32,6 (0)"

// mustPart tells whether piece i is a point's second number, which must stand off its first.
func mustPart(i int) bool {
	return i > 0 && pieces[i][0] <= '9' && pieces[i-1][0] <= '9'
}

func TestP12BlanksWhereTheyMayStand(t *testing.T) {
	for _, blanks := range []string{"", " ", "\n", "  ", "\n\n", " \n", "\n ", strings.Repeat("\n ", 9999)} {
		everywhere := ""
		for place := 0; place <= len(pieces); place++ {
			path := ""
			for i, piece := range pieces {
				if i == place {
					path += blanks
				}
				if mustPart(i) && (i != place || blanks == "") {
					path += " "
				}
				path += piece
			}
			if place == len(pieces) {
				path += blanks
			} else {
				if mustPart(place) && blanks == "" {
					everywhere += "\n"
				}
				everywhere += blanks + pieces[place]
			}
			wantShapes(t, path, piecesTold)
		}
		wantShapes(t, everywhere+blanks, piecesTold)
	}
}

func TestP12BlanksWhereTheyMustStand(t *testing.T) {
	wantNoShapes(t, "M1z", api.ErrSyntax, 2)
	wantNoShapes(t, "M12z", api.ErrSyntax, 3)
	wantNoShapes(t, "M1L2 3z", api.ErrSyntax, 2)
	wantNoShapes(t, "M1,2z", api.ErrSyntax, 2)
	wantNoShapes(t, "M1\t2z", api.ErrSyntax, 2)
	wantNoShapes(t, "M1\r2z", api.ErrSyntax, 2)
	wantNoShapes(t, "M1-2z", api.ErrSyntax, 2)
	wantNoShapes(t, "M1 2L3z", api.ErrSyntax, 6)
	// Without one, the two are one number.
	wantNoShapes(t, "M3333z", api.ErrSide, 1)
	wantNoShapes(t, "M0000", api.ErrShort, 5)
}

// Blanks within a number make two of it.
func TestP12BlanksWhereTheyMayNotStand(t *testing.T) {
	wantNoShapes(t, "M1 2 3z", api.ErrSyntax, 5)
	wantNoShapes(t, "M1 2\n3z", api.ErrSyntax, 5)
	wantNoShapes(t, "M1 2 3 4z", api.ErrSyntax, 5)
	wantNoShapes(t, "M1 2L3 4 L 5 6 0z", api.ErrSyntax, 15)
}

func TestP12WrongByteAtEachPlace(t *testing.T) {
	const blanks, digits = " \n", "0123456789"
	for _, p := range []struct {
		start string // a path up to the place
		may   string // the bytes that may stand there
	}{
		{"", blanks + "M"}, {" ", blanks + "M"}, {"\n", blanks + "M"},
		{"M", blanks + digits}, {"M ", blanks + digits}, {"\nM\n", blanks + digits},
		{"M1", blanks + digits}, {"M 0", blanks + digits},
		{"M1 ", blanks + digits}, {"M1\n", blanks + digits},
		{"M1 2", blanks + digits + "Lz"}, {"M1\n \n0", blanks + digits + "Lz"},
		{"M1 2 ", blanks + "Lz"}, {"M1 2\n", blanks + "Lz"},
		{"M1 2L", blanks + digits}, {"M1 2 L ", blanks + digits}, {"M1 2L3", blanks + digits}, {"M1 2L3\n", blanks + digits},
		{"M1 2L3 1", blanks + digits + "Lz"}, {"M1 2L3 1 ", blanks + "Lz"}, {"M1 2L3 1L", blanks + digits},
		{"M1 2z", blanks + "M"}, {"M1 2z ", blanks + "M"}, {"M1 2L3 1z\n", blanks + "M"},
		{"M1 2zM", blanks + digits}, {"M1 2z M3 1", blanks + digits + "Lz"}, {"M1 2zM3 1z", blanks + "M"},
	} {
		for c := 0; c < 256; c++ {
			path := p.start + string([]byte{byte(c)})
			if strings.IndexByte(p.may, byte(c)) < 0 {
				wantNoShapes(t, path, api.ErrSyntax, len(p.start))
				wantNoShapes(t, path+" 1 1z", api.ErrSyntax, len(p.start))
				wantNoShapes(t, path+"M33", api.ErrSyntax, len(p.start))
			} else if _, errno, _ := Shapes(path); errno == api.ErrSyntax {
				t.Errorf("Shapes(%q): the last byte may stand there", path)
			}
		}
	}
}

func TestP12EndsTooEarlyAtEachPlace(t *testing.T) {
	for _, path := range []string{"M0 0z", " \nM 01\n 2 L 3\n4\nL5 6 z \nM7 8z", "M0 0zM1 1zM32 32L0 32z"} {
		shapesOf(t, path)
		for n := 0; n <= len(path); n++ {
			part := strings.TrimRight(path[:n], " \n")
			if part == "" || part[len(part)-1] == 'z' {
				if l := shapesOf(t, path[:n]); len(l) != strings.Count(part, "z") {
					t.Errorf("Shapes(%q) = %s", path[:n], told(l))
				}
				continue
			}
			wantNoShapes(t, path[:n], api.ErrShort, n)
		}
	}
}

func TestP12NumbersOfAnyDigits(t *testing.T) {
	for _, noughts := range []string{"", "0", "00", strings.Repeat("0", 30), strings.Repeat("0", 100000)} {
		wantShapes(t, "M"+noughts+"1 "+noughts+"32L"+noughts+"0 "+noughts+"09z", "1,32 0,9 (0)")
	}
	wantShapes(t, "M00000 000z", "0,0 (0)")
}

func TestP12NumbersAboveMaxSide(t *testing.T) {
	wrong := []string{"33", "033", "0033", "34", "40", "99", "100", "320", "330", "999", "256", "4294967296", "4294967297", "18446744073709551616", "18446744073709551617", "340282366920938463463374607431768211457",
		strings.Repeat("0", 99999) + "33", "1" + strings.Repeat("0", 99999), strings.Repeat("9", 99999)}
	for _, n := range wrong {
		for _, start := range []string{"M", " M\n ", "M0 ", "M32\n\n", "M0 0L", "M0 0L 32 ", "M0 0zM", "M0 0L1 1z M1 "} {
			for _, rest := range []string{"", " ", "z", "x", "L", " 33z", " 0z", "-1", ".5", "\xff"} {
				wantNoShapes(t, start+n+rest, api.ErrSide, len(start))
			}
		}
	}
	// A number that may be is passed, and what is wrong behind it is told.
	for n := 0; n <= api.MaxSide; n++ {
		number := strconv.Itoa(n)
		wantNoShapes(t, "M"+number, api.ErrShort, 1+len(number))
		wantNoShapes(t, "M"+number+"x", api.ErrSyntax, 1+len(number))
		wantNoShapes(t, "M0 "+number, api.ErrShort, 3+len(number))
		wantNoShapes(t, "M0 "+number+"x", api.ErrSyntax, 3+len(number))
		wantNoShapes(t, "M"+number+" 33", api.ErrSide, 2+len(number))
	}
}

// Of several things that are wrong the first one is told, also if it is the lesser one.
func TestP12TheFirstThingThatIsWrong(t *testing.T) {
	wantNoShapes(t, "M33 34z", api.ErrSide, 1)
	wantNoShapes(t, "M0,33z", api.ErrSyntax, 2)
	wantNoShapes(t, "x33", api.ErrSyntax, 0)
	wantNoShapes(t, "33", api.ErrSyntax, 0)
	wantNoShapes(t, "M0 0 33", api.ErrSyntax, 5)
	wantNoShapes(t, "M0 0zL33 0z", api.ErrSyntax, 5)
	wantNoShapes(t, "M0 33zx", api.ErrSide, 3)
	wantNoShapes(t, "M0 0z M1 1L2 2 z M3 x M33", api.ErrSyntax, 20)
	for _, path := range []string{"M+1 0z", "M-1 0z", "M.5 0z", "Mx", "ML0 0z", "MM0 0z", "Mz"} {
		wantNoShapes(t, path, api.ErrSyntax, 1)
	}
	for _, path := range []string{"m0 0z", "l0 0z", "L0 0z", "zM0 0z", "#", "\t", "\r\n", "\x00", "\u00a0M0 0z"} {
		wantNoShapes(t, path, api.ErrSyntax, 0)
	}
	for _, path := range []string{"M0 0Z", "M0 0l1 1z", "M0 0M1 1z", "M0 0\t", "M0 0\r", "M0 0.0z", "M0 0,z", "M0 0e1z"} {
		wantNoShapes(t, path, api.ErrSyntax, 4)
	}
}

// wholePath is what P12 says of a path, but for how great its numbers may be.
var wholePath = regexp.MustCompile(`^([ \n]*M[ \n]*[0-9]+[ \n]+[0-9]+([ \n]*L[ \n]*[0-9]+[ \n]+[0-9]+)*[ \n]*z)*[ \n]*$`)

// goesOn keeps which texts can be gone on with till they are paths.
var goesOn = map[string]bool{}

func canGoOn(text string) bool {
	can, found := goesOn[text]
	for _, rest := range []string{"", "z", "0z", " 0z", "0 0z"} {
		if !found && !can {
			can = wholePath.MatchString(text + rest)
		}
	}
	goesOn[text] = can
	return can
}

var (
	digitsOf  = regexp.MustCompile(`[0-9]+`)
	shapeText = regexp.MustCompile(`M[^z]*z`)
)

// faultOf tells by the words of P12 what is wrong with a text first: the longest start that can be gone on with, and then the numbers in it.
func faultOf(text string) (api.Errno, int) {
	good := 0
	for good < len(text) && canGoOn(text[:good+1]) {
		good++
	}
	for _, number := range digitsOf.FindAllStringIndex(text[:good], -1) {
		n, err := strconv.Atoi(text[number[0]:number[1]])
		if err != nil || n > api.MaxSide {
			return api.ErrSide, number[0]
		}
	}
	if good < len(text) {
		return api.ErrSyntax, good
	}
	if !wholePath.MatchString(text) {
		return api.ErrShort, len(text)
	}
	return api.OK, 0
}

// shapesIn answers the shapes of a text that is a path.
func shapesIn(text string) []api.Shape {
	var l []api.Shape
	for _, one := range shapeText.FindAllString(text, -1) {
		var s api.Shape
		numbers := digitsOf.FindAllString(one, -1)
		for i := 0; i+1 < len(numbers); i += 2 {
			x, _ := strconv.Atoi(numbers[i])
			y, _ := strconv.Atoi(numbers[i+1])
			s.Points = append(s.Points, api.Point{X: x, Y: y})
		}
		s.Twice = twiceOf(s)
		l = append(l, s)
	}
	return l
}

// checkShapes holds an answer to all that P12 says of it.
func checkShapes(t *testing.T, text string) {
	t.Helper()
	errno, at := faultOf(text)
	if errno != api.OK {
		wantNoShapes(t, text, errno, at)
		return
	}
	wantShapes(t, text, told(shapesIn(text)))
}

// The starts lead up to each part of a path.
func TestP12AllShortTexts(t *testing.T) {
	for _, start := range []string{"", "M", "M3", "M3 ", "M3 2", "M3 2\n", "M3 2L", "M1 2L3", "M1 2L3 0", "M1 2z", "M1 2zM", "M1 2zM2 3"} {
		allStrings(start, "MLz 03\nx", 4, func(text string) { checkShapes(t, text) })
	}
	allStrings("M0", " 0Lz", 7, func(text string) { checkShapes(t, text) })
}

// A path with a byte put in, left out or put in another's place, everywhere.
func TestP12SmallFaults(t *testing.T) {
	for _, path := range []string{" M 0 0 L0 1L1 1 z", "M31 2L32 32L03 4z\nM5 6 z", "M0 32z M1\n1z\n\n"} {
		for n := 0; n <= len(path); n++ {
			for c := 0; c < 256; c++ {
				put := string([]byte{byte(c)})
				checkShapes(t, path[:n]+put+path[n:])
				if n < len(path) {
					checkShapes(t, path[:n]+put+path[n+1:])
				}
			}
			if n < len(path) {
				checkShapes(t, path[:n]+path[n+1:])
			}
		}
	}
}

func TestP12WhatPathWrites(t *testing.T) {
	for seed := 0; seed < 300; seed++ {
		l := patternShapes(seed%9, 32, seed)
		path, errno := Path(l)
		if errno != api.OK {
			t.Fatalf("Path(%s) = %d", told(l), errno)
		}
		wantShapes(t, path, told(l))
	}
	for seed := 0; seed < 40; seed++ {
		b := thick(1+seed%32, 1+seed*5%32, seed, seed%9)
		for _, o := range everyPolicy(b, seed) {
			for _, l := range [][]api.Shape{cyclesOf(t, b, o), traceOf(t, b, o)} {
				path, errno := Path(l)
				if errno != api.OK {
					t.Fatalf("Path(%s) = %d", told(l), errno)
				}
				wantShapes(t, path, told(l))
				wantPath(t, shapesOf(t, path), path)
			}
		}
	}
}
