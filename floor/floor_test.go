package floor_test

import (
	"cmp"
	"math"
	"math/big"
	"slices"
	"strings"
	"testing"

	"estuary/api"
	"estuary/floor"
)

// The model of these tests is package big: numbers without a bound.

func number(n int) *big.Int { return big.NewInt(int64(n)) }

func power(n uint) *big.Int { return new(big.Int).Lsh(big.NewInt(1), n) }

// model is a wide number as one without a bound.
func model(a api.Wide) *big.Int {
	upper := new(big.Int).Lsh(number(a.Hi), 64)
	return upper.Add(upper, new(big.Int).SetUint64(uint64(a.Lo)))
}

// wrapped is the wide number that a number comes to at 2^128.
func wrapped(n *big.Int) api.Wide {
	rest := new(big.Int).Mod(n, power(128)) // never below 0
	hi := new(big.Int).Rsh(rest, 64).Uint64()
	lo := new(big.Int).And(rest, new(big.Int).Sub(power(64), number(1))).Uint64()
	return api.Wide{Hi: int(hi), Lo: uint(lo)}
}

// fits tells whether a number is a wide one.
func fits(n *big.Int) bool {
	return n.Cmp(power(127)) < 0 && n.Cmp(new(big.Int).Neg(power(127))) >= 0
}

// scramble is the next number of a row that is the same in every run.
func scramble(x uint64) uint64 { return x*6364136223846793005 + 1442695040888963407 }

// times is edges and scrambled numbers, rising, each once.
func times() []int {
	list := []int{0}
	for shift := range 63 {
		p := 1 << shift
		list = append(list, p-1, p, p+1, -p-1, -p, -p+1)
	}
	for i := range 12 {
		list = append(list, math.MinInt+i, math.MaxInt-i, i, -i, 10*i, -10*i)
	}
	x := uint64(1)
	for range 100 {
		x = scramble(x)
		list = append(list, int(x), int(x)>>(x>>58))
	}
	slices.Sort(list)
	return slices.Compact(list)
}

// resolutions is all times that are resolutions.
func resolutions() []int {
	return slices.DeleteFunc(times(), func(r int) bool { return r < 1 })
}

// wides is edges and scrambled wide numbers.
func wides() []api.Wide {
	var list []api.Wide
	for _, hi := range []int{0, 1, 2, -1, -2, math.MaxInt, math.MaxInt - 1, math.MinInt, math.MinInt + 1} {
		for _, lo := range []uint{0, 1, 2, 9, 10, 1<<63 - 1, 1 << 63, 1<<63 + 1, math.MaxUint - 1, math.MaxUint} {
			list = append(list, api.Wide{Hi: hi, Lo: lo})
		}
	}
	x := uint64(2)
	for range 40 {
		x = scramble(x)
		hi := int(x) >> (x >> 58)
		x = scramble(x)
		list = append(list, api.Wide{Hi: hi, Lo: uint(x)})
	}
	ten := number(1)
	for range 39 {
		for _, near := range []int{-1, 0, 1} {
			n := new(big.Int).Add(ten, number(near))
			list = append(list, wrapped(n), wrapped(n.Neg(n)))
		}
		ten = new(big.Int).Mul(ten, number(10))
	}
	return list
}

// fewWides is so few that three of them can be held against each other.
func fewWides() []api.Wide {
	var list []api.Wide
	for _, hi := range []int{0, 1, -1, math.MaxInt, math.MinInt} {
		for _, lo := range []uint{0, 1, 1 << 63, math.MaxUint} {
			list = append(list, api.Wide{Hi: hi, Lo: lo})
		}
	}
	return append(list, api.Wide{Hi: 123456789, Lo: 987654321}, api.Wide{Hi: -5, Lo: 1<<63 + 7})
}

// P1.1, written out.
func TestDivAndModOfWrittenCases(t *testing.T) {
	for _, c := range []struct{ time, res, win, rest int }{
		{0, 1, 0, 0},
		{9, 10, 0, 9},
		{10, 10, 1, 0},
		{19, 10, 1, 9},
		{-1, 10, -1, 9},
		{-10, 10, -1, 0},
		{-11, 10, -2, 9},
		{-1, 1, -1, 0},
		{math.MinInt, 1, math.MinInt, 0},
		{math.MinInt, 2, -1 << 62, 0},
		{math.MinInt, 3, -3074457345618258603, 1},
		{math.MinInt, math.MaxInt, -2, math.MaxInt - 1},
		{math.MinInt + 1, math.MaxInt, -1, 0},
		{-1, math.MaxInt, -1, math.MaxInt - 1},
		{0, math.MaxInt, 0, 0},
		{math.MaxInt - 1, math.MaxInt, 0, math.MaxInt - 1},
		{math.MaxInt, math.MaxInt, 1, 0},
		{math.MaxInt, 1, math.MaxInt, 0},
	} {
		if win, rest := floor.Div(c.time, c.res), floor.Mod(c.time, c.res); win != c.win || rest != c.rest {
			t.Errorf("time %d at %d: window %d, rest %d; want %d, %d", c.time, c.res, win, rest, c.win, c.rest)
		}
	}
}

// P1.1 against the model.
func TestDivAndModRoundDown(t *testing.T) {
	for _, r := range resolutions() {
		for _, time := range times() {
			// With a divisor above 0 the model's Div and Mod round down.
			win, rest := new(big.Int).DivMod(number(time), number(r), new(big.Int))
			if got := floor.Div(time, r); win.Cmp(number(got)) != 0 {
				t.Fatalf("Div(%d, %d): %d, want %v", time, r, got, win)
			}
			if got := floor.Mod(time, r); rest.Cmp(number(got)) != 0 {
				t.Fatalf("Mod(%d, %d): %d, want %v", time, r, got, rest)
			}
		}
	}
}

// P1.1 at resolutions that are none.
func TestResolutionsBelowOne(t *testing.T) {
	for _, r := range []int{0, -1, -2, -10, math.MinInt + 1, math.MinInt} {
		for _, time := range times() {
			if win, rest := floor.Div(time, r), floor.Mod(time, r); win != 0 || rest != 0 {
				t.Fatalf("time %d at %d: window %d, rest %d", time, r, win, rest)
			}
			for _, k := range []int{0, 1, -1, time, math.MinInt, math.MaxInt} {
				if floor.In(time, k, r) {
					t.Fatalf("In(%d, %d, %d)", time, k, r)
				}
			}
		}
	}
}

// P1.1: In holds the time against the window's ends, which may be no numbers of 64 bits.
func TestInIsBetweenTheEnds(t *testing.T) {
	for _, r := range []int{1, 2, 3, 10, 1 << 32, 1 << 62, math.MaxInt - 1, math.MaxInt} {
		for _, k := range []int{0, 1, -1, 2, -2, 7, -7, 1 << 32, -1 << 32, 1 << 62, math.MaxInt, math.MinInt + 1, math.MinInt} {
			first := new(big.Int).Mul(number(k), number(r))
			beyond := new(big.Int).Add(first, number(r))
			near := times()
			for _, end := range []*big.Int{first, beyond} {
				for i := -1; i <= 1; i++ {
					if n := new(big.Int).Add(end, number(i)); n.IsInt64() {
						near = append(near, int(n.Int64()))
					}
				}
			}
			for _, time := range near {
				want := first.Cmp(number(time)) <= 0 && number(time).Cmp(beyond) < 0
				if got := floor.In(time, k, r); got != want {
					t.Fatalf("In(%d, %d, %d): %v", time, k, r, got)
				}
			}
		}
	}
}

// P1.1: the bits of an amount.
func TestBits(t *testing.T) {
	for n, want := range map[int]int{0: 0, 1: 1, -1: 1, 2: 2, -2: 2, 3: 2, -3: 2, 4: 3, -4: 3, math.MaxInt: 63, math.MinInt + 1: 63, math.MinInt: 64} {
		if got := floor.Bits(n); got != want {
			t.Errorf("Bits(%d): %d, want %d", n, got, want)
		}
	}
	for _, n := range times() {
		if got, want := floor.Bits(n), number(n).BitLen(); got != want {
			t.Errorf("Bits(%d): %d, want %d", n, got, want)
		}
	}
}

// P1.1: Of is the same number.
func TestOfIsTheNumber(t *testing.T) {
	for _, n := range times() {
		if w := floor.Of(n); model(w).Cmp(number(n)) != 0 {
			t.Errorf("Of(%d): %v", n, w)
		}
	}
}

// P1.1: Add, Neg and Less, wrapping around at 2^128.
func TestAddNegLess(t *testing.T) {
	least, greatest := api.Wide{Hi: math.MinInt}, api.Wide{Hi: math.MaxInt, Lo: math.MaxUint}
	if floor.Add(greatest, floor.Of(1)) != least || floor.Add(least, floor.Of(-1)) != greatest {
		t.Error("sums don't wrap around at 2^128")
	}
	if floor.Neg(least) != least {
		t.Error("0 less the least number isn't that number")
	}
	if got := floor.Add(api.Wide{Lo: math.MaxUint}, floor.Of(1)); got != (api.Wide{Hi: 1}) {
		t.Error("no carry into the upper half:", got)
	}
	for _, a := range wides() {
		if got, want := floor.Neg(a), wrapped(new(big.Int).Neg(model(a))); got != want {
			t.Errorf("Neg(%v): %v, want %v", a, got, want)
		}
		for _, b := range wides() {
			if got, want := floor.Add(a, b), wrapped(new(big.Int).Add(model(a), model(b))); got != want {
				t.Fatalf("Add(%v, %v): %v, want %v", a, b, got, want)
			}
			if got, want := floor.Less(a, b), model(a).Cmp(model(b)) < 0; got != want {
				t.Fatalf("Less(%v, %v): %v", a, b, got)
			}
		}
	}
}

// P1.1: texts.
func TestText(t *testing.T) {
	for want, a := range map[string]api.Wide{
		"0":                     {},
		"7":                     {Lo: 7},
		"-7":                    {Hi: -1, Lo: math.MaxUint - 6},
		"10":                    {Lo: 10},
		"18446744073709551615":  {Lo: math.MaxUint},
		"18446744073709551616":  {Hi: 1},
		"-18446744073709551616": {Hi: -1},
		"-18446744073709551617": {Hi: -2, Lo: math.MaxUint},
		"170141183460469231731687303715884105727":  {Hi: math.MaxInt, Lo: math.MaxUint},
		"-170141183460469231731687303715884105727": {Hi: math.MinInt, Lo: 1},
		"-170141183460469231731687303715884105728": {Hi: math.MinInt},
	} {
		if got := floor.Text(a); got != want {
			t.Errorf("Text(%v): %s, want %s", a, got, want)
		}
	}
	for _, a := range wides() {
		if got, want := floor.Text(a), model(a).String(); got != want {
			t.Errorf("Text(%v): %s, want %s", a, got, want)
		}
	}
}

// P1.2: each time lies in the window that Div answers, and in no other one.
func TestEachTimeLiesInJustOneWindow(t *testing.T) {
	for _, r := range resolutions() {
		for _, time := range times() {
			home := floor.Div(time, r)
			if !floor.In(time, home, r) {
				t.Fatalf("time %d isn't in its window %d at %d", time, home, r)
			}
			for _, k := range []int{home - 1, home + 1, -home, ^home, 0, 1, -1, time, math.MinInt, math.MaxInt} {
				if k != home && floor.In(time, k, r) {
					t.Fatalf("time %d is in windows %d and %d at %d", time, home, k, r)
				}
			}
		}
	}
}

// P1.2: windows rise with times, by at most one from a time to the next one.
func TestWindowsRiseWithTimes(t *testing.T) {
	for _, r := range resolutions() {
		earlier := math.MinInt
		for _, time := range times() {
			win := floor.Div(time, r)
			if win < earlier {
				t.Fatalf("time %d at %d: window %d, behind %d", time, r, win, earlier)
			}
			earlier = win
			if time == math.MaxInt {
				continue
			}
			step := floor.Div(time+1, r) - win
			last := floor.Mod(time, r) == r-1
			if step != 0 && step != 1 || (step == 1) != last {
				t.Fatalf("from time %d to the next one at %d: %d windows", time, r, step)
			}
		}
	}
}

// P1.3: the laws of sums.
func TestLawsOfAdd(t *testing.T) {
	list := fewWides()
	for _, a := range list {
		if floor.Add(a, floor.Of(0)) != a || floor.Add(floor.Of(0), a) != a {
			t.Errorf("Of(0) changes %v", a)
		}
		if floor.Add(a, floor.Neg(a)) != floor.Of(0) || floor.Neg(floor.Neg(a)) != a {
			t.Errorf("Neg doesn't undo %v", a)
		}
		for _, b := range list {
			if floor.Add(a, b) != floor.Add(b, a) {
				t.Errorf("not commutative: %v, %v", a, b)
			}
			if floor.Add(floor.Add(a, b), floor.Neg(b)) != a {
				t.Errorf("Neg doesn't undo %v behind %v", b, a)
			}
			for _, c := range list {
				if floor.Add(floor.Add(a, b), c) != floor.Add(a, floor.Add(b, c)) {
					t.Fatalf("not associative: %v, %v, %v", a, b, c)
				}
			}
		}
	}
}

// P1.3: Of keeps sums (also those beyond 64 bits) and order.
func TestOfKeepsSumsAndOrder(t *testing.T) {
	if floor.Of(0) != (api.Wide{}) {
		t.Error("Of(0) isn't 0")
	}
	for _, a := range times() {
		if floor.Add(floor.Of(a), floor.Of(0)) != floor.Of(a) {
			t.Errorf("Of(0) changes Of(%d)", a)
		}
		for _, b := range times() {
			sum := floor.Add(floor.Of(a), floor.Of(b))
			if exact := new(big.Int).Add(number(a), number(b)); model(sum).Cmp(exact) != 0 {
				t.Fatalf("Of(%d) and Of(%d) come to %v, want %v", a, b, sum, exact)
			} else if exact.IsInt64() && sum != floor.Of(a+b) {
				t.Fatalf("Of(%d) and Of(%d) come to another number than Of of their sum", a, b)
			}
			if floor.Less(floor.Of(a), floor.Of(b)) != (a < b) {
				t.Fatalf("Less of %d and %d isn't their order", a, b)
			}
		}
	}
}

// P1.3: Less is an order.
func TestLessIsAnOrder(t *testing.T) {
	list := wides()
	slices.SortFunc(list, func(a, b api.Wide) int { return cmp.Or(cmp.Compare(a.Hi, b.Hi), cmp.Compare(a.Lo, b.Lo)) })
	list = slices.Compact(list)
	for i, a := range list {
		for j, b := range list {
			if floor.Less(a, b) != (i < j) {
				t.Fatalf("Less(%v, %v): %v", a, b, i >= j)
			}
		}
	}
}

// P1.4: a number comes back from its text.
func TestParseOfText(t *testing.T) {
	for _, a := range wides() {
		if got, ok := floor.Parse(floor.Text(a)); got != a || !ok {
			t.Errorf("%v comes back as %v, %v", a, got, ok)
		}
	}
	for _, n := range times() {
		if got, ok := floor.Parse(number(n).String()); got != floor.Of(n) || !ok {
			t.Errorf("%d comes back as %v, %v", n, got, ok)
		}
	}
}

// expectParse holds Parse of a text against the model's.
func expectParse(t *testing.T, s string) {
	t.Helper()
	var want api.Wide
	n, known := new(big.Int).SetString(s, 10)
	known = known && n.String() == s && fits(n)
	if known {
		want = wrapped(n)
	}
	if got, ok := floor.Parse(s); got != want || ok != known {
		t.Fatalf("Parse(%q): %v, %v; want %v, %v", s, got, ok, want, known)
	}
}

// P1.4: texts that no wide number has.
func TestParseOfOtherTexts(t *testing.T) {
	for _, s := range []string{
		"", "-", "--", "+", "-0", "+0", "00", "-00", "01", "-01", "+1", "--1", "-+1", "1-", "-1-",
		" ", " 1", "1 ", "- 1", "1 0", "\t1", "1\n", "\x001", "1\x00",
		"a", "0x10", "1e3", "1.0", "1_000", "1,000", "/", ":", "1:", "1/", "٣", "１", "−1", "\xff", "-\xff",
		"170141183460469231731687303715884105728",
		"-170141183460469231731687303715884105729",
		"340282366920938463463374607431768211455",
		"340282366920938463463374607431768211456",
		"340282366920938463463374607431768211457",
		"-340282366920938463463374607431768211456",
		"-340282366920938463463374607431768211457",
		"0170141183460469231731687303715884105727",
		"-0170141183460469231731687303715884105728",
		"999999999999999999999999999999999999999",
		"9999999999999999999999999999999999999999",
		"-999999999999999999999999999999999999999",
		"-9999999999999999999999999999999999999999",
		strings.Repeat("0", 40),
		strings.Repeat("0", 39) + "1",
		strings.Repeat("0", 100) + "1",
		strings.Repeat("9", 1<<20),
		strings.Repeat("-", 1<<20),
		"1" + strings.Repeat("0", 1<<20),
	} {
		if got, ok := floor.Parse(s); ok || got != (api.Wide{}) {
			t.Errorf("Parse(%.50q), of %d bytes: %v, %v", s, len(s), got, ok)
		}
	}
}

// P1.4: all short texts of signs, digits and their neighbours.
func TestParseOfAllShortTexts(t *testing.T) {
	alphabet := []string{"-", "+", "0", "1", "9", "/", ":", " ", "\x00", "\xb0"}
	texts := []string{""}
	for range 4 {
		var longer []string
		for _, s := range texts {
			expectParse(t, s)
			for _, sign := range alphabet {
				longer = append(longer, s+sign)
			}
		}
		texts = longer
	}
	for _, s := range texts {
		expectParse(t, s)
	}
}

// P1.4: texts that are one sign away from a number's.
func TestParseOfNearTexts(t *testing.T) {
	for _, a := range wides() {
		s := floor.Text(a)
		for i := range len(s) {
			expectParse(t, s[:i]+s[i+1:])
			for _, sign := range []string{"-", "0", "9", " "} {
				expectParse(t, s[:i]+sign+s[i+1:])
				expectParse(t, s[:i]+sign+s[i:])
			}
		}
		for _, sign := range []string{"-", "0", "9", " "} {
			expectParse(t, s+sign)
		}
	}
}
