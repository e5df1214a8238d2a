package gain

import (
	"math"
	"math/big"
	"math/rand"
	"regexp"
	"slices"
	"strconv"
	"strings"
	"testing"

	"seabag/api"
	"seabag/format"
	"seabag/uu"
)

func repeat(s string, n int) string { return strings.Repeat(s, n) }

// short is a text that a failing test can show.
func short(s string) string {
	if len(s) > 200 {
		return strconv.Quote(s[:200]) + ".. (" + strconv.Itoa(len(s)) + " bytes)"
	}
	return strconv.Quote(s)
}

func byChance(r *rand.Rand, n int) string {
	b := make([]byte, n)
	r.Read(b)
	return string(b)
}

// pick is a text of so many pieces.
func pick(r *rand.Rand, n int, pieces ...string) string {
	var s strings.Builder
	for range n {
		s.WriteString(pieces[r.Intn(len(pieces))])
	}
	return s.String()
}

var (
	infinite = math.Inf(1)
	below    = math.Inf(-1)
	minus    = math.Copysign(0, -1)
	none     = math.NaN()
)

// nones are different bits of what is no number.
func nones() []float64 {
	return []float64{
		none, math.Copysign(none, -1), math.Copysign(none, 1), infinite - infinite,
		math.Float64frombits(0x7ff0000000000001), math.Float64frombits(0xfff0000000000001),
		math.Float64frombits(0x7ff8000000000000), math.Float64frombits(0xfff8000000000000),
		math.Float64frombits(0x7fffffffffffffff), math.Float64frombits(0xffffffffffffffff),
	}
}

// rising are numbers in their order, all different.
func rising() []float64 {
	above := []float64{
		0, math.SmallestNonzeroFloat64, 2 * math.SmallestNonzeroFloat64, 0x1p-1023, 0x1p-1022, 1e-300, 0.0004, 0.0005, 0.001, 0.5,
		math.Nextafter(1, 0), 1, math.Nextafter(1, 2), 1.5, 2, 255, 256, 257, 1e6, 0x1p40, 0x1p52, 0x1p53, 0x1p63, 1e300, math.MaxFloat64, infinite,
	}
	var l []float64
	for _, x := range slices.Backward(above) {
		l = append(l, -x)
	}
	l[len(l)-1] = minus
	return append(l, above...)
}

// chance is any number: of any bits, or one of those that matter.
func chance(r *rand.Rand) float64 {
	switch r.Intn(4) {
	case 0:
		l := append(rising(), nones()...)
		return l[r.Intn(len(l))]
	case 1:
		return float64(r.Intn(7) - 3)
	}
	return math.Float64frombits(r.Uint64())
}

// same tells whether numbers are one: -0 isn't 0, and all that are none are one.
func same(a, b float64) bool {
	if a != a || b != b {
		return a != a && b != b
	}
	return math.Float64bits(a) == math.Float64bits(b)
}

// rank is the model of the order: a number's bits, as a whole number that rises as it does.
func rank(x float64) *big.Int {
	if x != x {
		return new(big.Int).Lsh(big.NewInt(1), 70)
	}
	bits := math.Float64bits(x)
	size := new(big.Int).SetUint64(bits & (1<<63 - 1))
	if bits>>63 == 1 {
		size.Not(size) // -0 is -1, one lower than 0
	}
	return size
}

// modelLeast is the first place that no other one's number stands ahead of.
func modelLeast(l []float64) int {
	for i, x := range l {
		ahead := 0
		for k, y := range l {
			if k != i && rank(y).Cmp(rank(x)) < 0 {
				ahead++
			}
		}
		if ahead == 0 {
			return i
		}
	}
	return -1
}

// modelShare is the quotient, worked out by whole numbers, as the nearest float.
func modelShare(a, b int) float64 {
	x, _ := new(big.Float).SetInt64(int64(a)).Float64()
	y, _ := new(big.Float).SetInt64(int64(b)).Float64()
	switch {
	case a == 0 && b == 0:
		return none
	case b == 0 && a > 0:
		return infinite
	case b == 0:
		return below
	case a == 0 && b < 0:
		return minus // a float's quotient
	}
	q := new(big.Rat).Quo(new(big.Rat).SetFloat64(x), new(big.Rat).SetFloat64(y))
	f, _ := q.Float64()
	return f
}

// modelShow rounds by whole numbers: x is just some thousandths, and a rest.
func modelShow(x float64) string {
	switch {
	case x != x:
		return "none"
	case x > math.MaxFloat64:
		return "all"
	case x < -math.MaxFloat64:
		return "-all"
	}
	r := new(big.Rat).SetFloat64(math.Abs(x))
	r.Mul(r, big.NewRat(1000, 1))
	n, rest := new(big.Int).QuoRem(r.Num(), r.Denom(), new(big.Int))
	half := rest.Lsh(rest, 1).Cmp(r.Denom())
	if half > 0 || half == 0 && n.Bit(0) == 1 {
		n.Add(n, big.NewInt(1))
	}
	s := n.String()
	if len(s) < 4 {
		s = repeat("0", 4-len(s)) + s
	}
	sign := ""
	if math.Float64bits(x)>>63 == 1 {
		sign = "-"
	}
	return sign + s[:len(s)-3] + "." + s[len(s)-3:]
}

var modelText = regexp.MustCompile(`\A[\x20-\x7e\t\n]*\n\z`)

// modelCost counts what layers 9 and 10 tell.
func modelCost(way int, s string) float64 {
	switch way {
	case 1:
		if modelText.MatchString(s) {
			return 1
		}
		return infinite
	case 2:
		lines, e := uu.Encode(0o644, "x", s)
		if e != api.OK {
			panic(e)
		}
		return modelShare(len(lines)-len("begin 644 x\n"), len(s))
	case 3:
		if len(s) <= 256 {
			return modelShare(len(format.Escape(s)), len(s))
		}
		return infinite
	}
	return none
}

func modelBest(s string, ways []int) (int, api.Errno) {
	if len(ways) == 0 {
		return 0, api.ErrNone
	}
	var costs []float64
	for _, w := range ways {
		costs = append(costs, modelCost(w, s))
	}
	i := modelLeast(costs)
	if s != "" && !(costs[i] <= math.MaxFloat64 && costs[i] >= -math.MaxFloat64) {
		return 0, api.ErrKind
	}
	return ways[i], api.OK
}

func checkText(t *testing.T, s string) {
	t.Helper()
	if got, want := Text(s), modelText.MatchString(s); got != want {
		t.Errorf("Text(%s): %v", short(s), got)
	}
}

func checkCost(t *testing.T, way int, s string) {
	t.Helper()
	if got, want := Cost(way, s), modelCost(way, s); !same(got, want) {
		t.Errorf("Cost(%d, %s): %v, not %v", way, short(s), got, want)
	}
}

func checkBest(t *testing.T, s string, ways ...int) {
	t.Helper()
	got, e := Best(s, ways...)
	if want, we := modelBest(s, ways); got != want || e != we {
		t.Errorf("Best(%s, %v): %d %d, not %d %d", short(s), ways, got, e, want, we)
	}
}

func checkShow(t *testing.T, x float64) {
	t.Helper()
	if got, want := Show(x), modelShow(x); got != want {
		t.Errorf("Show(%v): %s, not %s", x, got, want)
	}
}

// P12.1: Share is the quotient.
func TestShare(t *testing.T) {
	for _, x := range []struct {
		a, b int
		want float64
	}{
		{1, 4, 0.25}, {4, 1, 4}, {3, 2, 1.5}, {-1, 2, -0.5}, {1, -2, -0.5}, {-6, -4, 1.5}, {5, 5, 1}, {0, 5, 0}, {1, 3, 1.0 / 3}, {2, 3, 2.0 / 3}, {1, 10, 0.1},
		{1, 0, infinite}, {-1, 0, below}, {math.MaxInt, 0, infinite}, {math.MinInt, 0, below}, {0, 0, none},
		{math.MaxInt, 1, 0x1p63}, {math.MinInt, 1, -0x1p63}, {math.MinInt, -1, 0x1p63}, {1<<53 + 1, 1, 0x1p53}, {1<<53 + 3, 1, 0x1p53 + 4}, {math.MaxInt, math.MaxInt, 1}, {math.MaxInt, math.MaxInt - 1, 1}, {1, math.MinInt, -0x1p-63},
	} {
		if got := Share(x.a, x.b); !same(got, x.want) {
			t.Errorf("Share(%d, %d): %v", x.a, x.b, got)
		}
	}
}

// P12.1: Share of all small numbers, and of any, is what whole numbers make of it.
func TestShareModel(t *testing.T) {
	check := func(a, b int) {
		if got, want := Share(a, b), modelShare(a, b); !same(got, want) {
			t.Errorf("Share(%d, %d): %v, not %v", a, b, got, want)
		}
	}
	for a := -60; a <= 60; a++ {
		for b := -60; b <= 60; b++ {
			check(a, b)
		}
	}
	r := rand.New(rand.NewSource(121))
	for range 20000 {
		check(int(r.Uint64()>>r.Intn(64)), int(r.Uint64()>>r.Intn(64)))
	}
}

// P12.1: a number stands ahead of those behind it in the order, and of none else.
func TestLess(t *testing.T) {
	l := append(rising(), none)
	for i, a := range l {
		for k, b := range l {
			if got := Less(a, b); got != (i < k) {
				t.Errorf("Less(%v, %v): %v", a, b, got)
			}
		}
	}
}

// P12.1: all that are no number are as one, behind all others.
func TestLessOfNone(t *testing.T) {
	for _, a := range nones() {
		for _, b := range nones() {
			if Less(a, b) {
				t.Errorf("%x ahead of %x", math.Float64bits(a), math.Float64bits(b))
			}
		}
		for _, x := range rising() {
			if Less(a, x) || !Less(x, a) {
				t.Errorf("%x isn't behind %v", math.Float64bits(a), x)
			}
		}
	}
}

// P12.1: Less is an order, of any numbers.
func TestLessModel(t *testing.T) {
	r := rand.New(rand.NewSource(122))
	for range 50000 {
		a, b := chance(r), chance(r)
		if got, want := Less(a, b), rank(a).Cmp(rank(b)) < 0; got != want {
			t.Errorf("Less(%v, %v): %v", a, b, got)
		}
	}
}

// P12.1: Least is the first place of the least.
func TestLeast(t *testing.T) {
	for _, x := range []struct {
		l    []float64
		want int
	}{
		{nil, -1}, {[]float64{}, -1}, {[]float64{5}, 0}, {[]float64{none}, 0}, {[]float64{infinite}, 0},
		{[]float64{3, 2, 1}, 2}, {[]float64{1, 2, 3}, 0}, {[]float64{2, 1, 3}, 1}, {[]float64{1, 1, 1}, 0}, {[]float64{2, 1, 1}, 1},
		{[]float64{0, minus}, 1}, {[]float64{minus, 0}, 0}, {[]float64{0, minus, minus}, 1}, {[]float64{0, 0}, 0}, {[]float64{minus, minus}, 0},
		{[]float64{none, none}, 0}, {[]float64{none, infinite}, 1}, {[]float64{none, below, none}, 1}, {[]float64{infinite, none}, 0}, {[]float64{none, 1, none, 0}, 3},
		{[]float64{infinite, infinite}, 0}, {[]float64{below, -1, below}, 0}, {[]float64{-1, below, below}, 1}, {[]float64{infinite, math.MaxFloat64}, 1},
	} {
		if got := Least(x.l...); got != x.want {
			t.Errorf("Least(%v): %d", x.l, got)
		}
	}
	if got := Least(); got != -1 {
		t.Errorf("Least(): %d", got)
	}
}

// P12.1: no other number stands ahead of the one that Least tells, and none of those to its left is as it is.
func TestLeastModel(t *testing.T) {
	r := rand.New(rand.NewSource(123))
	for range 5000 {
		l := make([]float64, r.Intn(9))
		for i := range l {
			l[i] = chance(r)
		}
		if got, want := Least(l...), modelLeast(l); got != want {
			t.Errorf("Least(%v): %d, not %d", l, got, want)
		}
	}
}

// P12.1: Least of many.
func TestLeastOfMany(t *testing.T) {
	l := make([]float64, 1<<20)
	for i := range l {
		l[i] = none
	}
	if got := Least(l...); got != 0 {
		t.Errorf("nones: %d", got)
	}
	l[1<<20-1] = infinite
	if got := Least(l...); got != 1<<20-1 {
		t.Errorf("the last: %d", got)
	}
	l[7], l[9] = 0, minus
	if got := Least(l...); got != 9 {
		t.Errorf("-0: %d", got)
	}
}

// P12.1: Signed has the one's size and the other one's sign.
func TestSigned(t *testing.T) {
	for _, x := range []struct{ x, sign, want float64 }{
		{2, 1, 2}, {2, -1, -2}, {-2, 1, 2}, {-2, -1, -2}, {2, 0, 2}, {2, minus, -2}, {-2, 0, 2}, {-2, minus, -2},
		{0, 1, 0}, {0, -1, minus}, {minus, 1, 0}, {minus, -5, minus}, {0, minus, minus}, {minus, 0, 0}, {0, 0, 0}, {minus, minus, minus},
		{infinite, -1, below}, {below, 1, infinite}, {infinite, minus, below}, {below, 0, infinite}, {3, infinite, 3}, {3, below, -3}, {-3, infinite, 3}, {0, below, minus},
	} {
		if got := Signed(x.x, x.sign); !same(got, x.want) {
			t.Errorf("Signed(%v, %v): %v", x.x, x.sign, got)
		}
	}
}

// P12.1: so it is with any two numbers, bit by bit; and what is no number stays none.
func TestSignedModel(t *testing.T) {
	const top = 1 << 63
	r := rand.New(rand.NewSource(124))
	for range 50000 {
		x, sign := chance(r), chance(r)
		got := Signed(x, sign)
		switch {
		case x != x:
			if got == got {
				t.Errorf("Signed(%v, %v): %v", x, sign, got)
			}
		case sign == sign:
			want := math.Float64bits(x)&^top | math.Float64bits(sign)&top
			if math.Float64bits(got) != want {
				t.Errorf("Signed(%v, %v): %v", x, sign, got)
			}
		case math.Abs(got) != math.Abs(x):
			t.Errorf("Signed(%v, none): %v", x, got)
		}
	}
	for _, x := range nones() {
		for _, sign := range append(rising(), nones()...) {
			if got := Signed(x, sign); got == got {
				t.Errorf("Signed(none, %v): %v", sign, got)
			}
		}
	}
}

// P12.2: what is saved, as a share of what was there.
func TestSaved(t *testing.T) {
	for _, x := range []struct {
		before, after int
		want          float64
	}{
		{4, 1, 0.75}, {4, 4, 0}, {4, 5, -0.25}, {4, 0, 1}, {1, 0, 1}, {1, 1, 0}, {1, 2, -1}, {10, 3, 0.7}, {3, 2, 1.0 / 3}, {3, 5, -2.0 / 3},
		{0, 0, minus}, {0, 1, below}, {0, 1 << 40, below}, {1 << 40, 0, 1}, {1 << 40, 1 << 40, 0}, {1 << 40, 1<<40 - 1, 0x1p-40}, {1, 1 << 40, 1 - 0x1p40}, {1<<40 - 1, 1 << 40, -1.0 / (1<<40 - 1)},
	} {
		if got := Saved(x.before, x.after); !same(got, x.want) {
			t.Errorf("Saved(%d, %d): %v", x.before, x.after, got)
		}
	}
}

// P12.2: so it is with all small numbers, and with any.
func TestSavedModel(t *testing.T) {
	check := func(before, after int) {
		want := modelShare(before-after, before)
		if before == 0 && after == 0 {
			want = minus
		}
		if got := Saved(before, after); !same(got, want) {
			t.Errorf("Saved(%d, %d): %v, not %v", before, after, got, want)
		}
	}
	for before := range 100 {
		for after := range 100 {
			check(before, after)
		}
	}
	r := rand.New(rand.NewSource(125))
	for range 20000 {
		check(r.Intn(1<<r.Intn(41)+1), r.Intn(1<<r.Intn(41)+1))
	}
}

// P1: of other numbers nothing is promised but an end.
func TestSavedOfOthers(t *testing.T) {
	l := []int{math.MinInt, -1 << 40, -1, 0, 1, 1<<40 + 1, math.MaxInt}
	for _, before := range l {
		for _, after := range l {
			Saved(before, after)
		}
	}
}

// P12.2: what is no number and what is infinite have words, all else three digits behind the point.
func TestShow(t *testing.T) {
	for _, x := range []struct {
		x    float64
		want string
	}{
		{none, "none"}, {infinite, "all"}, {below, "-all"},
		{0, "0.000"}, {minus, "-0.000"}, {1, "1.000"}, {-1, "-1.000"}, {0.75, "0.750"}, {-0.25, "-0.250"}, {12.345, "12.345"}, {1e6, "1000000.000"}, {-1e6, "-1000000.000"},
		{0.0001, "0.000"}, {-0.0001, "-0.000"}, {0.0004999, "0.000"}, {0.0006, "0.001"}, {-0.0006, "-0.001"}, {0.9994, "0.999"}, {0.9996, "1.000"}, {9.9999, "10.000"}, {-999.9996, "-1000.000"}, {1.0 / 3, "0.333"}, {2.0 / 3, "0.667"},
		// a 5 with nothing behind it
		{0.0625, "0.062"}, {0.1875, "0.188"}, {0.3125, "0.312"}, {0.4375, "0.438"}, {0.5625, "0.562"}, {0.6875, "0.688"}, {0.8125, "0.812"}, {0.9375, "0.938"}, {1.0625, "1.062"}, {-0.0625, "-0.062"}, {-0.1875, "-0.188"}, {1024.0625, "1024.062"}, {99.9375, "99.938"}, {4503599627370.0625, "4503599627370.062"},
		// those next to it
		{math.Nextafter(0.0625, 1), "0.063"}, {math.Nextafter(0.0625, 0), "0.062"}, {math.Nextafter(0.1875, 0), "0.187"}, {math.Nextafter(0.1875, 1), "0.188"}, {math.Nextafter(-0.1875, 0), "-0.187"},
		// 0.0005 and 1.0005 are no floats: what stands for them is above, or below
		{0.0005, "0.001"}, {1.0005, "1.000"}, {2.0005, "2.001"}, {-0.0005, "-0.001"}, {0.0015, "0.002"}, {0.0025, "0.003"},
		{math.SmallestNonzeroFloat64, "0.000"}, {-math.SmallestNonzeroFloat64, "-0.000"}, {0x1p53, "9007199254740992.000"}, {1e21, "1000000000000000000000.000"}, {1e22, "10000000000000000000000.000"}, {1e23, "99999999999999991611392.000"},
		{0x1p100, "1267650600228229401496703205376.000"},
	} {
		if got := Show(x.x); got != x.want {
			t.Errorf("Show(%v): %s, not %s", x.x, got, x.want)
		}
		checkShow(t, x.x)
	}
	for _, x := range append(rising(), nones()...) {
		checkShow(t, x)
	}
	if got := Show(math.MaxFloat64); len(got) != 313 || !strings.HasPrefix(got, "17976931348623157") || !strings.HasSuffix(got, "8368.000") {
		t.Errorf("the greatest: %s", got)
	}
}

// P12.2: so it is with all sixteenths, thousandths and those next to them, and with numbers of any bits.
func TestShowModel(t *testing.T) {
	for i := -4000; i <= 4000; i++ {
		checkShow(t, float64(i)/16)
		for _, x := range []float64{float64(i) / 2000, float64(i) / 1000} {
			checkShow(t, x)
			checkShow(t, math.Nextafter(x, infinite))
			checkShow(t, math.Nextafter(x, below))
		}
	}
	r := rand.New(rand.NewSource(126))
	for range 5000 {
		checkShow(t, chance(r))
		checkShow(t, r.NormFloat64())
		checkShow(t, float64(r.Intn(1<<20))/0x1p10)
		checkShow(t, float64(r.Intn(1<<46)*2+1)/16)
		checkShow(t, Saved(r.Intn(1<<r.Intn(41)+1), r.Intn(1<<r.Intn(41)+1)))
	}
}

// P12.3: text is plain signs, tabs and newlines, with a newline at its end.
func TestText(t *testing.T) {
	for _, s := range []string{"\n", "a\n", "\n\n", "a\tb\n", "\t\n", " \n", " ~\n", "a\nb\n", "!\"#$%&'()*+,-./:;<=>?@[\\]^_`{|}\n", repeat("line\n", 1<<10)} {
		if !Text(s) {
			t.Errorf("Text(%s): false", short(s))
		}
	}
	for _, s := range []string{"", "a", "a\nb", "\na", "\n ", "\t", " ", "\r\n", "a\r\n", "\x00\n", "a\x00b\n", "\x7f\n", "\x1f\n", "\x80\n", "\xff\n", "é\n", "a\n\x00", "\v\n", "\f\n", "\b\n", "\a\n", "\x1b\n", "a\n\r"} {
		if Text(s) {
			t.Errorf("Text(%s): true", short(s))
		}
	}
}

// P12.3: each byte, at each place.
func TestTextBytes(t *testing.T) {
	for b := range 256 {
		s := string([]byte{byte(b)})
		for _, x := range []string{s, s + "\n", "a" + s + "b\n", "a\n" + s, "a\n" + s + "\n", s + "a\n", "\n" + s, s + s, "\n" + s + "a"} {
			checkText(t, x)
		}
		for c := range 256 {
			checkText(t, string([]byte{byte(b), byte(c)}))
		}
	}
}

// P12.3: any bytes.
func TestTextModel(t *testing.T) {
	r := rand.New(rand.NewSource(127))
	for range 5000 {
		checkText(t, pick(r, r.Intn(12), "a", "b", " ", "~", "\t", "\n", "\n", "a\n", "\x1f", "\r"))
		checkText(t, pick(r, r.Intn(30), "a", "b", " ", "~", "\t", "\n")+"\n")
		checkText(t, byChance(r, r.Intn(4)))
	}
}

// P12.3: one wrong byte in a long text.
func TestTextLong(t *testing.T) {
	s := []byte(repeat("0123456789abcde\n", 1<<18))
	if !Text(string(s)) || Text(string(s[:len(s)-1])) {
		t.Error("long")
	}
	for _, i := range []int{0, 1, 1 << 16, 1 << 21, len(s) - 2, len(s) - 1} {
		b := s[i]
		s[i] = 0x80
		if Text(string(s)) {
			t.Errorf("a wrong byte at %d", i)
		}
		s[i] = b
	}
}

// P12.3: what each way costs.
func TestCost(t *testing.T) {
	for i, x := range []struct {
		way  int
		s    string
		want float64
	}{
		{Raw, "abc\n", 1}, {Raw, "\n", 1}, {Raw, "abc", infinite}, {Raw, "\x00\n", infinite}, {Raw, repeat("x\n", 1000), 1}, {Raw, repeat("x\n", 1000) + "x", infinite}, {Raw, "é\n", infinite},
		{Uu, "a", 12}, {Uu, "abc", 4}, {Uu, "abcd", 4}, {Uu, "abc\n", 4}, {Uu, repeat("\xff", 45), 68.0 / 45}, {Uu, repeat("\x00", 46), 74.0 / 46}, {Uu, repeat("a", 90), 130.0 / 90}, {Uu, repeat("a", 450), 626.0 / 450},
		{Octal, "a", 1}, {Octal, "abc", 1}, {Octal, "abc\n", 7.0 / 4}, {Octal, "\x00", 4}, {Octal, "%", 4}, {Octal, "'a'", 3},
		// at most 256 bytes, whatever a format of them has
		{Octal, repeat("a", 255), 1}, {Octal, repeat("a", 256), 1}, {Octal, repeat("a", 257), infinite},
		{Octal, repeat("\x00", 64), 4}, {Octal, repeat("\x00", 65), 4}, {Octal, repeat("\x00", 255), 4}, {Octal, repeat("\x00", 256), 4}, {Octal, repeat("\x00", 257), infinite},
		{Octal, repeat("\x00", 64) + "a", 257.0 / 65}, {Octal, repeat("\x00", 63) + "aaaa", 256.0 / 67}, {Octal, repeat("\x00", 63) + "aaaaa", 257.0 / 68}, {Octal, repeat("\x00", 64) + repeat("a", 192), 448.0 / 256}, {Octal, repeat("\x00", 64) + repeat("a", 193), infinite},
		{Octal, repeat("a", 252) + "\n", 256.0 / 253}, {Octal, repeat("a", 255) + "\n", 259.0 / 256}, {Octal, repeat("a", 255) + "%", 259.0 / 256}, {Octal, repeat("a", 256) + "\n", infinite}, {Octal, repeat("a", 256) + "%", infinite}, {Octal, repeat("é", 128), 4}, {Octal, repeat("é", 128) + "a", infinite},
		{0, "a\n", none}, {4, "a\n", none}, {-1, "a\n", none}, {7, "a", none}, {math.MaxInt, "a\n", none}, {math.MinInt, "a\n", none}, {1 << 32, "a\n", none}, {1<<32 + 1, "a\n", none}, {256 + Uu, "a\n", none},
		{Raw, "", infinite}, {Uu, "", infinite}, {Octal, "", none}, {0, "", none}, {4, "", none},
	} {
		if got := Cost(x.way, x.s); !same(got, x.want) {
			t.Errorf("%d: Cost(%d, %s): %v, not %v", i, x.way, short(x.s), got, x.want)
		}
		checkCost(t, x.way, x.s)
	}
}

// P12.3: the ways have the chapter's numbers.
func TestWays(t *testing.T) {
	if Raw != 1 || Uu != 2 || Octal != 3 {
		t.Errorf("%d %d %d", Raw, Uu, Octal)
	}
}

// P12.3: so it is with bytes of all lengths, and any.
func TestCostModel(t *testing.T) {
	r := rand.New(rand.NewSource(128))
	for n := range 300 {
		for way := -1; way <= 5; way++ {
			checkCost(t, way, repeat("a", n))
			checkCost(t, way, repeat("\n", n))
			checkCost(t, way, repeat("\x00", n))
			checkCost(t, way, byChance(r, n))
			checkCost(t, way, pick(r, n, "a", "b", " ", "\n", "%", "\t"))
			checkCost(t, way, pick(r, n, "a", "b", " ", "\t")+"\n")
			checkCost(t, way, pick(r, n, "a", "b", "c", "d", "e", "f", "g", "\\"))
		}
	}
}

// P12.3: the most bytes of which anything is promised.
func TestCostLong(t *testing.T) {
	line := repeat("a", 63) + "\n"
	for _, s := range []string{repeat(line, 1<<16), repeat("\xff", 1<<22), repeat("a", 1<<22)} {
		for way := range 5 {
			checkCost(t, way, s)
		}
		for _, ways := range [][]int{{Raw}, {Uu}, {Octal}, {Octal, Uu, Raw}, {Raw, Octal}, {Uu, Raw}} {
			checkBest(t, s, ways...)
		}
	}
}

// P12.3: the least cost, the first of several; what can't be told; no ways.
func TestBest(t *testing.T) {
	all := []int{Raw, Uu, Octal}
	for i, x := range []struct {
		s    string
		ways []int
		want int
		e    api.Errno
	}{
		{"abc\n", all, Raw, api.OK}, {"abc\n", []int{Octal, Uu, Raw}, Raw, api.OK}, {"abc\n", []int{Octal, Uu}, Octal, api.OK}, {"abc\n", []int{Uu}, Uu, api.OK}, {"abc", all, Octal, api.OK}, {"abc", []int{Raw, Uu}, Uu, api.OK},
		{repeat("\xff", 100), all, Uu, api.OK}, {repeat("a", 257), all, Uu, api.OK}, {repeat("a", 256), all, Octal, api.OK}, {"\x00", all, Octal, api.OK},
		// as much one way as the other: 12 bytes
		{"\x00\x00\x00", []int{Octal, Uu}, Octal, api.OK}, {"\x00\x00\x00", []int{Uu, Octal}, Uu, api.OK}, {"\x00\x00\x00", all, Uu, api.OK}, {"\x00\x00\x00a", all, Octal, api.OK},
		// at most 256 bytes, of which a format has more: 280 of 220, and 312 as lines
		{repeat("a", 200) + repeat("\x00", 20), []int{Octal, Uu}, Octal, api.OK}, {repeat("a", 200) + repeat("\x00", 20), all, Octal, api.OK}, {repeat("\x00", 65), []int{Octal}, Octal, api.OK}, {repeat("\x00", 65), all, Uu, api.OK}, {repeat("\x00", 256), []int{Raw, Octal}, Octal, api.OK}, {repeat("\x00", 257), []int{Raw, Octal}, 0, api.ErrKind},
		{repeat("a", 255) + "%", all, Octal, api.OK}, {repeat("a", 256) + "%", all, Uu, api.OK}, {repeat("a", 240) + repeat("%", 16), []int{Uu, Octal}, Octal, api.OK},
		// what can't be
		{"\x00", []int{Raw}, 0, api.ErrKind}, {"abc", []int{Raw}, 0, api.ErrKind}, {repeat("a", 257), []int{Raw, Octal}, 0, api.ErrKind}, {repeat("a", 257), []int{Octal, Raw, Octal}, 0, api.ErrKind},
		{"a", []int{7}, 0, api.ErrKind}, {"a", []int{0, -1, 4}, 0, api.ErrKind}, {"a", []int{7, Raw}, 0, api.ErrKind}, {"a\n", []int{7}, 0, api.ErrKind},
		{"a", []int{7, Octal, 0}, Octal, api.OK}, {"a\n", []int{0, Raw}, Raw, api.OK}, {"a", []int{Raw, 9, Uu}, Uu, api.OK},
		// no ways
		{"a\n", nil, 0, api.ErrNone}, {"a\n", []int{}, 0, api.ErrNone}, {"", nil, 0, api.ErrNone}, {"", []int{}, 0, api.ErrNone},
		// of nothing
		{"", []int{Uu, Octal}, Uu, api.OK}, {"", []int{Octal, Uu}, Uu, api.OK}, {"", all, Raw, api.OK}, {"", []int{Uu, Raw}, Uu, api.OK}, {"", []int{Octal, Uu, Raw}, Uu, api.OK}, {"", []int{Octal}, Octal, api.OK}, {"", []int{Raw}, Raw, api.OK},
		{"", []int{7}, 7, api.OK}, {"", []int{7, Octal}, 7, api.OK}, {"", []int{Octal, 7}, Octal, api.OK}, {"", []int{7, Raw}, Raw, api.OK}, {"", []int{-1}, -1, api.OK}, {"", []int{0, 7}, 0, api.OK},
	} {
		w, e := Best(x.s, x.ways...)
		if w != x.want || e != x.e {
			t.Errorf("%d: Best(%s, %v): %d %d, not %d %d", i, short(x.s), x.ways, w, e, x.want, x.e)
		}
		checkBest(t, x.s, x.ways...)
	}
}

// P12.3: so it is with any bytes, and any ways.
func TestBestModel(t *testing.T) {
	r := rand.New(rand.NewSource(129))
	for range 10000 {
		n := r.Intn(100)
		if r.Intn(8) == 0 {
			n = 0
		}
		s := byChance(r, n)
		switch r.Intn(5) {
		case 0:
			s = repeat("a", n*3)
		case 1:
			s = pick(r, n, "a", "b", "\t", " ", "\n", "a\n")
		case 2:
			s = pick(r, n/8, "\x00", "%", "a")
		case 3:
			s = repeat("a", n*3-n/2) + repeat("%", n/2)
		}
		ways := make([]int, r.Intn(5))
		for i := range ways {
			ways[i] = r.Intn(5)
		}
		checkBest(t, s, ways...)
	}
}

// P2: what is handed in stays as it is, its spare room too, and nothing of it is kept.
func TestListsStayTheirs(t *testing.T) {
	room := []int{9, Octal, Raw, Uu, 8, 7}
	costs := []float64{9, 3, none, minus, below, 7}
	if w, e := Best("a\n", room[1:4]...); w != Raw || e != api.OK {
		t.Error(w, e)
	}
	if i := Least(costs[1:4]...); i != 2 {
		t.Error(i)
	}
	if !slices.Equal(room, []int{9, Octal, Raw, Uu, 8, 7}) || !slices.EqualFunc(costs, []float64{9, 3, none, minus, below, 7}, same) {
		t.Error(room, costs)
	}
	clear(room)
	clear(costs)
	if w, e := Best("a\n", Octal, Uu); w != Octal || e != api.OK {
		t.Error(w, e)
	}
	if i := Least(2, 1); i != 1 {
		t.Error(i)
	}
}
