package outline

import (
	"math"
	"strings"
	"testing"

	"outline/api"
)

// The starts lead up to each part of a file; what is told of every string behind them is what P1 and P4 say of all.
func TestP1ReadOfAllShortStrings(t *testing.T) {
	for _, start := range []string{"", "P", "P1", "P1 ", "P1 1", "P1 1 ", "P4 9 1", "P1 1 2", "P4 1 2 "} {
		allStrings(start, "P140 \n#x\xff", 4, func(file string) { checkRead(t, file) })
	}
}

func checkRead(t *testing.T, file string) {
	t.Helper()
	b, errno, at := Read(file)
	if errno == api.OK {
		wantBitmap(t, file, b)
		wantBitmap(t, file+"x", b)
		if again, errno := Write(b); errno != api.OK {
			t.Errorf("Read(%q) = %+v, no bitmap: Write %q, %d", file, b, again, errno)
		}
		return
	}
	wantError(t, file, errno, at)
	switch errno {
	case api.ErrShort:
		if at != len(file) {
			t.Errorf("Read(%q): too short at %d", file, at)
		}
	case api.ErrSyntax:
		wantError(t, file[:at], api.ErrShort, at)
		wantError(t, file[:at+1], api.ErrSyntax, at)
		wantError(t, file+" 1 1 1", api.ErrSyntax, at)
	case api.ErrSide:
		wantError(t, file[:at], api.ErrShort, at)
		if file[at] < '0' || file[at] > '9' {
			t.Errorf("Read(%q): a wrong side at %d, where no digit is", file, at)
		}
	default:
		t.Errorf("Read(%q) = %d", file, errno)
	}
}

func TestP1LongFilesEnd(t *testing.T) {
	const many = 3000000
	blanks := strings.Repeat(" \n\t\r", many/4)
	wantBitmap(t, "P1"+blanks+"1"+blanks+"1"+blanks+"1", rows("1"))
	wantBitmap(t, "P1"+strings.Repeat("#\n", many/2)+"1 1 1", rows("1"))
	wantBitmap(t, "P1#"+strings.Repeat("#", many)+"\n1 1 1", rows("1"))
	wantBitmap(t, "P4 1 1 \x80"+blanks, rows("1"))
	wantError(t, "P1#"+blanks[:1]+strings.Repeat("#", many), api.ErrShort, many+4)
	wantError(t, "P1 1 "+strings.Repeat("1", many), api.ErrSide, 5)
	wantError(t, "P1 1 1"+blanks, api.ErrShort, many+6)
}

func TestP1WriteOfAllNumbers(t *testing.T) {
	numbers := []int{math.MinInt, math.MinInt + 1, -1 << 32, -33, -1, 0, 1, 2, 31, 32, 33, 64, 1 << 31, 1 << 32, 1 << 62, math.MaxInt}
	for _, w := range numbers {
		for _, h := range numbers {
			for _, n := range []int{0, 1, 2, 4, 31, 32, 33, 62, 64, 961, 992, 1024, 1056} {
				for _, pixel := range []string{"1", "/"} {
					b := api.Bitmap{W: w, H: h, Bits: strings.Repeat(pixel, n)}
					one := pixel == "1" && w >= 1 && w <= 32 && h >= 1 && h <= 32 && n == w*h
					file, errno := Write(b)
					if one && errno == api.OK && file != "" || !one && errno == api.ErrArg && file == "" {
						continue
					}
					t.Errorf("Write(%d, %d, %d of %q) = %q, %d", w, h, n, pixel, file, errno)
				}
			}
		}
	}
}

func TestP2AnswersHangOnArgumentsAlone(t *testing.T) {
	texts := []string{"P1 2 1 01", "P4 3 2 \xa0\x60", "P1 32 32 " + strings.Repeat("10", 512), "P1 33", "P1 1", "x", "", "P4 32 1 abc"}
	bitmaps := []api.Bitmap{rows("101", "011"), rows("1"), pattern(32, 32, 1), {}, {W: 1, H: 1, Bits: "2"}}
	type answer struct {
		b     api.Bitmap
		errno api.Errno
		at    int
	}
	var reads []answer
	for _, text := range texts {
		b, errno, at := Read(text)
		reads = append(reads, answer{b, errno, at})
	}
	var writes []string
	for _, b := range bitmaps {
		file, _ := Write(b)
		writes = append(writes, file)
	}
	// In another order, and with other calls between.
	for i := len(texts) - 1; i >= 0; i-- {
		for j := len(bitmaps) - 1; j >= 0; j-- {
			if file, _ := Write(bitmaps[j]); file != writes[j] {
				t.Errorf("Write(%+v) = %q, and %q before", bitmaps[j], file, writes[j])
			}
			b, errno, at := Read(texts[i])
			if (answer{b, errno, at}) != reads[i] {
				t.Errorf("Read(%.60q) = %+v, %d, %d, and %+v before", texts[i], b, errno, at, reads[i])
			}
		}
	}
}

func TestP1CyclesAndTraceOfAllNumbers(t *testing.T) {
	numbers := []int{math.MinInt, -1 << 32, -33, -1, 0, 1, 2, 3, 4, 32, 33, 1024, 1025, 1 << 32, 1 << 62, math.MaxInt}
	for _, w := range numbers {
		for _, h := range numbers {
			for _, bits := range []string{"", "1", "01", "0110", strings.Repeat("01", 32), strings.Repeat("0", 1024)} {
				for _, n := range numbers {
					checkErrors(t, api.Bitmap{W: w, H: h, Bits: bits}, api.Options{Policy: n, Draws: bits})
					checkErrors(t, api.Bitmap{W: w, H: h, Bits: bits}, api.Options{Policy: 3, Draws: "1", Speckle: n})
				}
			}
		}
	}
}

func checkErrors(t *testing.T, b api.Bitmap, o api.Options) {
	t.Helper()
	one := b.W >= 1 && b.W <= 32 && b.H >= 1 && b.H <= 32 && len(b.Bits) == b.W*b.H
	if one && o.Policy >= 0 && o.Policy <= 3 && o.Speckle >= 0 && o.Speckle <= 1024 {
		checkCycles(t, b, o)
		checkTrace(t, b, o, bestNumbers)
		return
	}
	wantRefused(t, b, o)
}

// Each list is written into, and far behind its end: no other one may change, and no later answer.
func checkOwn(t *testing.T, ask func() []api.Shape) {
	t.Helper()
	first, second := ask(), ask()
	want := told(first)
	for i := range first {
		whole := first[i].Points[:cap(first[i].Points)]
		kept := append([]api.Point(nil), whole...)
		for k := range whole {
			whole[k] = api.Point{X: -7, Y: -7}
		}
		rest, other := told(first[:i])+told(first[i+1:]), told(second)
		copy(whole, kept)
		if rest != told(first[:i])+told(first[i+1:]) || other != want {
			t.Fatalf("shape %d shares memory", i)
		}
	}
	whole := first[:cap(first)]
	for i := range whole {
		whole[i] = api.Shape{}
	}
	if told(second) != want || told(ask()) != want {
		t.Fatalf("two answers share memory")
	}
}

func TestP2ShapesAreTheCallersOwn(t *testing.T) {
	b := thick(16, 16, 5, 4)
	for _, o := range everyPolicy(b, 1) {
		checkOwn(t, func() []api.Shape { return cyclesOf(t, b, o) })
		checkOwn(t, func() []api.Shape { return traceOf(t, b, o) })
	}
	for _, path := range []string{"M0 0z", "M1 2z M3 4z", "M1 2L3 4L5 6zM1 2L3 4L5 6zM1 2L3 4L5 6z", spelt(patternShapes(60, 32, 1))} {
		checkOwn(t, func() []api.Shape { return shapesOf(t, path) })
	}
}

func TestP2CyclesAndTraceHangOnArgumentsAlone(t *testing.T) {
	type asked struct {
		b             api.Bitmap
		o             api.Options
		cycles, trace string
	}
	var all []asked
	for seed := 0; seed < 12; seed++ {
		b := pattern(1+seed*2, 24-seed, seed)
		for _, o := range everyPolicy(b, seed) {
			o.Speckle = seed % 3
			all = append(all, asked{b, o, told(cyclesOf(t, b, o)), told(traceOf(t, b, o))})
		}
	}
	for i := len(all) - 1; i >= 0; i-- {
		wantRefused(t, all[i].b, api.Options{Policy: 4})
		wantTrace(t, all[i].b, all[i].o, all[i].trace)
		wantCycles(t, all[i].b, all[i].o, all[i].cycles)
	}
}

// heldShapes answers shapes that share their points with each other, with more behind the end of each list, and a list of all there is: what the calls write into is seen there.
func heldShapes(seed int) ([]api.Shape, func() string) {
	points := make([]api.Point, 40)
	for i := range points {
		points[i] = api.Point{X: (i*i + seed) % 33, Y: (i*7 + seed) % 33}
	}
	all := make([]api.Shape, 12)
	for i := range all {
		all[i] = api.Shape{Points: points[i : i*2+1], Twice: i - 3}
	}
	return all[:8], func() string { return told(all) + told([]api.Shape{{Points: points}}) }
}

func TestP2PathAndFillWriteIntoNothing(t *testing.T) {
	for seed := 0; seed < 20; seed++ {
		l, held := heldShapes(seed)
		before := held()
		wantPath(t, l, spelt(l))
		checkFill(t, l, 1+seed, 32-seed)
		wantNotFilled(t, l, 0, 1, 0)
		l[7].Points[seed%8].X = 33
		refused := held()
		wantNoPath(t, l)
		if after := held(); after != refused {
			t.Errorf("what is refused is %s, and was %s", after, refused)
		}
		again, _ := heldShapes(seed)
		l[7].Points[seed%8].X = again[7].Points[seed%8].X
		if after := held(); after != before {
			t.Errorf("what was handed in is %s, and was %s", after, before)
		}
	}
}

func TestP2PathShapesAndFillHangOnArgumentsAlone(t *testing.T) {
	type asked struct {
		l            []api.Shape
		path         string
		nonZero, odd api.Bitmap
	}
	var all []asked
	for seed := 0; seed < 60; seed++ {
		a := asked{l: patternShapes(seed%6, 32, seed)}
		a.path, _ = Path(a.l)
		a.nonZero, a.odd = filled(t, a.l, 1+seed%32, 1+seed%17, 0), filled(t, a.l, 32, 1+seed%32, 1)
		wantShapes(t, a.path, told(a.l))
		all = append(all, a)
	}
	// In another order, and with refusals between.
	for i := len(all) - 1; i >= 0; i-- {
		wantNoPath(t, shapes(through(33, 0)))
		wantNoShapes(t, all[i].path+"M1 2L3 4", api.ErrShort, len(all[i].path)+8)
		wantFilledBy(t, all[i].l, api.Odd, all[i].odd)
		wantShapes(t, all[i].path, told(all[i].l))
		wantFilledBy(t, all[i].l, api.NonZero, all[i].nonZero)
		wantPath(t, all[i].l, all[i].path)
	}
}

func TestP1PathAndFillOfAllNumbers(t *testing.T) {
	numbers := []int{math.MinInt, math.MinInt + 1, -1 << 32, -33, -1, 0, 1, 31, 32, 33, 64, 1 << 31, 1 << 32, 1 << 62, math.MaxInt}
	isOne := func(n, least, most int) bool { return n >= least && n <= most }
	for _, n := range numbers {
		for _, m := range numbers {
			l := shapes(through(1, 2, n, m, 30, 4))
			if isOne(n, 0, 32) && isOne(m, 0, 32) {
				wantPath(t, l, spelt(l))
				checkFill(t, l, 32, 32)
			} else {
				wantNoPath(t, l)
			}
			for _, rule := range numbers {
				if isOne(n, 1, 32) && isOne(m, 1, 32) && isOne(rule, 0, 1) {
					checkFill(t, shapes(through(0, 0, 0, 20, 30, 30)), n, m)
				} else {
					wantNotFilled(t, shapes(through(0, 0, 0, 20, 30, 30)), n, m, rule)
				}
			}
		}
	}
}

func TestP1LongPathsAndListsEnd(t *testing.T) {
	const many = 300000
	wantNoShapes(t, strings.Repeat("M0 0z", many)+"M", api.ErrShort, 5*many+1)
	wantNoShapes(t, "M1 2"+strings.Repeat("L0 0", many)+"x", api.ErrSyntax, 4*many+4)
	wantNoShapes(t, "M1 "+strings.Repeat("1", many), api.ErrSide, 3)
	wantNoShapes(t, "M1"+strings.Repeat(" \n", many), api.ErrShort, 2*many+2)
	if l := shapesOf(t, strings.Repeat("M0 0z", many)); len(l) != many {
		t.Errorf("%d shapes of %d", len(l), many)
	}
	if l := shapesOf(t, "M0 0"+strings.Repeat("L32 0", many)+"z"); len(l) != 1 || len(l[0].Points) != many+1 {
		t.Errorf("a shape of %d points is none", many+1)
	}
	var l []api.Shape
	for i := 0; i < 5001; i++ {
		l = append(l, through(0, 0, 0, 32, 32, 32, 32, 0))
	}
	wantFilled(t, l, allOf(32, 32, "1"))
	wantFilledBy(t, l[1:], api.Odd, allOf(32, 32, "0"))
}
