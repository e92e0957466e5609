package phasor_test

import (
	"cmp"
	"math"
	"math/rand"
	"regexp"
	"strconv"
	"strings"
	"testing"

	"verger/api"
	"verger/phasor"
)

const most = api.MaxPart

var (
	nought = math.Copysign(0, -1)
	nan    = math.NaN()
	inf    = math.Inf(1)
)

// goodParts are parts of numbers: small ones, and those at the edges.
var goodParts = []float64{0, 1, -1, 2, -2, 3, 9, 10, -10, 11, 100, -999, 1000, 1001, -1000, 707107, most - 1, 1 - most, most, -most}

// badParts are parts that no number has.
var badParts = []float64{
	nought, 0.5, -0.5, 1.5, math.SmallestNonzeroFloat64, -math.SmallestNonzeroFloat64, math.Nextafter(1, 2),
	most + 1, -most - 1, most + 0.5, most - 0.5, math.Nextafter(most, inf), math.Nextafter(-most, -inf),
	1 << 31, 1 << 32, 1 << 53, 1 << 62, -1 << 63, 1 << 63, 1 << 64, 1e300, -math.MaxFloat64, nan, inf, -inf,
}

func numbers() []complex128 {
	var l []complex128
	for _, a := range goodParts {
		for _, b := range goodParts {
			l = append(l, complex(a, b))
		}
	}
	return l
}

func noNumbers() []complex128 {
	var l []complex128
	for _, bad := range badParts {
		for _, good := range []float64{0, 1, -1, 5, most} {
			l = append(l, complex(bad, good), complex(good, bad))
		}
		for _, other := range badParts {
			l = append(l, complex(bad, other))
		}
	}
	return l
}

// alike holds parts against each other with the signs of their noughts.
func alike(z, w complex128) bool {
	return math.Float64bits(real(z)) == math.Float64bits(real(w)) && math.Float64bits(imag(z)) == math.Float64bits(imag(w))
}

// textOf writes a number's text by the chapter's words.
func textOf(a, b int) string {
	digits := strconv.Itoa(b)
	if b == 1 || b == -1 {
		digits = strings.TrimSuffix(digits, "1")
	}
	if b == 0 {
		return strconv.Itoa(a)
	}
	if a == 0 {
		return digits + "i"
	}
	sign := ""
	if b > 0 {
		sign = "+"
	}
	return strconv.Itoa(a) + sign + digits + "i"
}

// theTexts is the form of all texts but for the parts' bounds.
var theTexts = regexp.MustCompile(`^(0|(-?[1-9][0-9]*)|-?([2-9]|[1-9][0-9]+)?i|-?[1-9][0-9]*[+-]([2-9]|[1-9][0-9]+)?i)$`)

// P3.1, P3.2: the chapter's examples.
func TestExamples(t *testing.T) {
	if z, err := phasor.Parse("3-i"); z != 3-1i || err != api.OK {
		t.Errorf("Parse(3-i): %v, %v", z, err)
	}
	if s, err := phasor.Print(1i); s != "i" || err != api.OK {
		t.Errorf("Print(i): %q, %v", s, err)
	}
	if s, err := phasor.Print(-2); s != "-2" || err != api.OK {
		t.Errorf("Print(-2): %q, %v", s, err)
	}
	if z, err := phasor.Mul(1+1i, 1-1i); z != 2 || err != api.OK {
		t.Errorf("Mul(1+i, 1-i): %v, %v", z, err)
	}
	for _, s := range []string{"03", "1i", "+i", "0+i"} {
		if z, err := phasor.Parse(s); z != 0 || err != api.ErrForm {
			t.Errorf("Parse(%s): %v, %v", s, z, err)
		}
	}
}

// P3.1, R1: what is a number, and what isn't.
func TestFormed(t *testing.T) {
	for _, z := range numbers() {
		if !phasor.Formed(z) {
			t.Errorf("Formed(%v): false", z)
		}
	}
	for _, z := range noNumbers() {
		if phasor.Formed(z) {
			t.Errorf("Formed(%v): true", z)
		}
	}
}

// P3.1: texts of every kind, written out.
func TestTexts(t *testing.T) {
	for want, z := range map[string]complex128{
		"0": 0, "1": 1, "-1": -1, "7": 7, "-10": -10, "100": 100, "1000000": 1000000, "-1000000": -1000000,
		"i": 1i, "-i": -1i, "2i": 2i, "-2i": -2i, "10i": 10i, "11i": 11i, "-11i": -11i, "1000000i": 1000000i, "-1000000i": -1000000i,
		"1+i": 1 + 1i, "1-i": 1 - 1i, "-1+i": -1 + 1i, "-1-i": -1 - 1i, "3+4i": 3 + 4i, "3-4i": 3 - 4i, "-12+10i": -12 + 10i, "-12-10i": -12 - 10i,
		"1000000+1000000i": 1000000 + 1000000i, "-1000000-1000000i": -1000000 - 1000000i,
	} {
		if s, err := phasor.Print(z); s != want || err != api.OK {
			t.Errorf("Print(%v): %q, %v; not %q", z, s, err, want)
		}
		if got, err := phasor.Parse(want); !alike(got, z) || err != api.OK {
			t.Errorf("Parse(%q): %v, %v; not %v", want, got, err, z)
		}
	}
}

// P3.1, R1, R5: Print of what is no number.
func TestPrintOfNoNumber(t *testing.T) {
	for _, z := range noNumbers() {
		if s, err := phasor.Print(z); s != "" || err != api.ErrArg {
			t.Errorf("Print(%v): %q, %v", z, s, err)
		}
	}
}

// P3.1, R1, R5: texts that are no number's, and answer nothing but the error.
func TestParseOfNoText(t *testing.T) {
	for _, s := range []string{
		"", " ", "+", "-", "--", "+-", "i-", "ii", "-ii", "+i", "--i", "-+i", "i+1", "i1", "1i", "-1i", "0i", "-0i", "+2i", "01i", "02i",
		"00", "01", "-0", "+0", "+1", "-01", "03", "1.0", "1e3", "1_000", "0x1", "0b1", "1,5", "½", "٣", "3 ", " 3", "3\x00", "\xff",
		"0+i", "0-i", "0+0i", "0+2i", "1+0i", "1-0i", "1+1i", "1-1i", "1+01i", "1+02i", "01+i", "+1+i", "-0+i", "1+", "1-", "1+2", "1-2",
		"1++i", "1+-i", "1-+i", "1--i", "1+-2i", "1--2i", "1+ i", "1 +i", "1+i ", "1+i+i", "1+2i+3i", "1+2+3i", "2i+1", "2*i", "1+I", "I", "1+j", "(1+2i)",
		"1000001", "-1000001", "1000001i", "-1000001i", "1000001+i", "1+1000001i", "-1-1000001i", "10000000", "2147483648", "4294967296", "4294967297",
		"9223372036854775808", "18446744073709551616", "18446744073709551617i", "1+18446744073709551617i", "NaN", "Inf", "-Inf", "NaN+i", "Infi", "1+Infi",
		strings.Repeat("9", 5000), strings.Repeat("0", 5000) + "1", strings.Repeat("1+", 5000) + "i", strings.Repeat("-", 5000) + "i",
	} {
		if z, err := phasor.Parse(s); !alike(z, 0) || err != api.ErrForm {
			t.Errorf("Parse(%.40q): %v, %v", s, z, err)
		}
	}
}

// P3.1, P3.3: every short text of the letters that texts are made of is taken
// if it has a text's form, and then undone by Print.
func TestParseOfAllShort(t *testing.T) {
	const letters = "+-0123i"
	var try func(s string)
	try = func(s string) {
		z, err := phasor.Parse(s)
		if !theTexts.MatchString(s) {
			if !alike(z, 0) || err != api.ErrForm {
				t.Errorf("Parse(%q): %v, %v", s, z, err)
			}
		} else if back, errno := phasor.Print(z); err != api.OK || errno != api.OK || back != s {
			t.Errorf("Parse(%q): %v, %v; Print of that: %q, %v", s, z, err, back, errno)
		}
		if len(s) < 6 {
			for i := range letters {
				try(s + letters[i:i+1])
			}
		}
	}
	try("")
}

// P3.1: the bound holds for each part by itself.
func TestParseAtTheBound(t *testing.T) {
	for _, d := range []int{-2, -1, 0, 1, 2} {
		n := most + d
		want := api.OK
		if d > 0 {
			want = api.ErrForm
		}
		for _, p := range [][2]int{{n, 0}, {-n, 0}, {0, n}, {0, -n}, {n, 1}, {-n, -1}, {5, n}, {-5, -n}, {n, n}, {-n, -n}} {
			z, err := phasor.Parse(textOf(p[0], p[1]))
			if err != want || err == api.OK && !alike(z, complex(float64(p[0]), float64(p[1]))) || err != api.OK && z != 0 {
				t.Errorf("Parse(%s): %v, %v", textOf(p[0], p[1]), z, err)
			}
		}
	}
}

// P3.1, P3.3: Print writes the text, and Parse undoes it.
func TestParseUndoesPrint(t *testing.T) {
	hold := func(a, b int) {
		z := complex(float64(a), float64(b))
		s, err := phasor.Print(z)
		if s != textOf(a, b) || err != api.OK {
			t.Fatalf("Print(%v): %q, %v; not %q", z, s, err, textOf(a, b))
		}
		if back, err := phasor.Parse(s); !alike(back, z) || err != api.OK {
			t.Fatalf("Parse(%q): %v, %v", s, back, err)
		}
	}
	for a := -110; a <= 110; a++ {
		for b := -110; b <= 110; b++ {
			hold(a, b)
		}
	}
	for _, z := range numbers() {
		hold(int(real(z)), int(imag(z)))
	}
	r := rand.New(rand.NewSource(3))
	for range 20000 {
		hold(r.Intn(2*most+1)-most, r.Intn(2*most+1)-most)
	}
}

// P3.2: sums and products of numbers, held against those of integers.
func TestAddAndMul(t *testing.T) {
	hold := func(name string, z, w complex128, f func(z, w complex128) (complex128, api.Errno), a, b int64) {
		t.Helper()
		want, wantErr := complex(float64(a), float64(b)), api.OK
		if max(a, -a, b, -b) > most {
			want, wantErr = 0, api.ErrRange
		}
		if got, err := f(z, w); !alike(got, want) || err != wantErr {
			t.Fatalf("%s(%v, %v): %v, %v; not %v, %v", name, z, w, got, err, want, wantErr)
		}
	}
	both := func(z, w complex128) {
		t.Helper()
		a, b, c, d := int64(real(z)), int64(imag(z)), int64(real(w)), int64(imag(w))
		hold("Add", z, w, phasor.Add, a+c, b+d)
		hold("Mul", z, w, phasor.Mul, a*c-b*d, a*d+b*c)
	}
	for _, z := range numbers() {
		for _, w := range numbers() {
			both(z, w)
		}
	}
	r := rand.New(rand.NewSource(3))
	for range 100000 {
		bound := 1 << (1 + r.Intn(19))
		part := func() float64 { return float64(r.Intn(2*bound+1) - bound) }
		both(complex(part(), part()), complex(part(), part()))
	}
}

// P3.2: the bound of sums and products is that of each part by itself.
func TestAddAndMulAtTheBound(t *testing.T) {
	for _, c := range []struct {
		call   func(z, w complex128) (complex128, api.Errno)
		z, w   complex128
		want   complex128
		expect api.Errno
	}{
		{phasor.Add, most - 1, 1, most, api.OK},
		{phasor.Add, most, 1, 0, api.ErrRange},
		{phasor.Add, -most, -1, 0, api.ErrRange},
		{phasor.Add, 5 + most*1i, 1i, 0, api.ErrRange},
		{phasor.Add, 5 - most*1i, -1i, 0, api.ErrRange},
		{phasor.Add, most + most*1i, -most - most*1i, 0, api.OK},
		{phasor.Mul, 1000, 1000, most, api.OK},
		{phasor.Mul, 1000i, 1000i, -most, api.OK},
		{phasor.Mul, 1000, -1000i, -most * 1i, api.OK},
		{phasor.Mul, 1000, 1001, 0, api.ErrRange},
		{phasor.Mul, 1000, 1001i, 0, api.ErrRange},
		{phasor.Mul, 1000 + 1000i, 1000 + 1000i, 0, api.ErrRange},
		{phasor.Mul, most + most*1i, most - most*1i, 0, api.ErrRange},
		{phasor.Mul, most + most*1i, 1i, -most + most*1i, api.OK},
	} {
		if got, err := c.call(c.z, c.w); !alike(got, c.want) || err != c.expect {
			t.Errorf("of %v, %v: %v, %v; not %v, %v", c.z, c.w, got, err, c.want, c.expect)
		}
	}
}

// P3.2: no nought of a sum or a product has a sign.
func TestNoughtsHaveNoSign(t *testing.T) {
	for a := -2.0; a <= 2; a++ {
		for b := -2.0; b <= 2; b++ {
			for _, w := range []complex128{0, 1, complex(-1, 0), 1i, complex(0, -1), 2, complex(-a, -b), complex(a, -b), complex(-b, a)} {
				w += 0
				z := complex(a, b) + 0
				for _, f := range []func(z, w complex128) (complex128, api.Errno){phasor.Add, phasor.Mul} {
					if got, err := f(z, w); err != api.OK || !phasor.Formed(got) {
						t.Errorf("of %v, %v: %v, %v", z, w, got, err)
					}
				}
			}
		}
	}
}

// P3.2, R1, R5, R6: what isn't a number is asked ahead of what is beyond bounds.
func TestAddAndMulOfNoNumbers(t *testing.T) {
	for _, z := range noNumbers() {
		for _, w := range []complex128{0, 1, -1i, most + most*1i, z, complex(nan, inf)} {
			for _, p := range [][2]complex128{{z, w}, {w, z}} {
				if got, err := phasor.Add(p[0], p[1]); !alike(got, 0) || err != api.ErrArg {
					t.Errorf("Add(%v, %v): %v, %v", p[0], p[1], got, err)
				}
				if got, err := phasor.Mul(p[0], p[1]); !alike(got, 0) || err != api.ErrArg {
					t.Errorf("Mul(%v, %v): %v, %v", p[0], p[1], got, err)
				}
			}
		}
	}
}

// P3.2, R1: Norm.
func TestNorm(t *testing.T) {
	for z, want := range map[complex128]int64{
		0: 0, 1: 1, -1: 1, 1i: 1, -1i: 1, 1 + 1i: 2, 3 + 4i: 25, -3 - 4i: 25, 5: 25, 1000: 1000000,
		most: most * most, -most * 1i: most * most, most + most*1i: 2 * most * most, (most - 1) - most*1i: 1999998000001,
	} {
		if n := phasor.Norm(z); n != want {
			t.Errorf("Norm(%v): %d, not %d", z, n, want)
		}
	}
	for _, z := range numbers() {
		a, b := int64(real(z)), int64(imag(z))
		if n := phasor.Norm(z); n != a*a+b*b {
			t.Errorf("Norm(%v): %d", z, n)
		}
	}
	for _, z := range noNumbers() {
		if n := phasor.Norm(z); n != -1 {
			t.Errorf("Norm(%v): %d", z, n)
		}
	}
}

// P3.2: Compare asks Norm first, then the real, then the imaginary part.
func TestCompare(t *testing.T) {
	inOrder := []complex128{
		0, -1, -1i, 1i, 1, -1 - 1i, -1 + 1i, 1 - 1i, 1 + 1i, -2, -2i, 2i, 2,
		-5, -4 - 3i, -4 + 3i, -3 - 4i, -3 + 4i, -5i, 5i, 3 - 4i, 3 + 4i, 4 - 3i, 4 + 3i, 5,
		-most, -most * 1i, most * 1i, most, -most - most*1i, -most + most*1i, most - most*1i, most + most*1i,
	}
	for i, z := range inOrder {
		for j, w := range inOrder {
			if got := phasor.Compare(z, w); got != cmp.Compare(i, j) {
				t.Errorf("Compare(%v, %v): %d", z, w, got)
			}
		}
	}
}

// P3.2, R1: Compare of what isn't a number.
func TestCompareOfNoNumbers(t *testing.T) {
	for _, z := range noNumbers() {
		for _, w := range []complex128{0, 1, -most, z, complex(inf, nan)} {
			if a, b := phasor.Compare(z, w), phasor.Compare(w, z); a != 0 || b != 0 {
				t.Errorf("Compare of %v and %v: %d, %d", z, w, a, b)
			}
		}
	}
}

// R2: the same arguments get the same answers, whatever was asked between.
func TestAgain(t *testing.T) {
	type answers struct {
		text      string
		sum, prod complex128
		e, f, g   api.Errno
		norm      int64
		order     int
	}
	ask := func(z, w complex128) (a answers) {
		a.text, a.e = phasor.Print(z)
		a.sum, a.f = phasor.Add(z, w)
		a.prod, a.g = phasor.Mul(z, w)
		a.norm, a.order = phasor.Norm(z), phasor.Compare(z, w)
		return a
	}
	l := append(numbers(), noNumbers()...)
	first := make([]answers, len(l))
	for i, z := range l {
		first[i] = ask(z, l[len(l)-1-i])
	}
	for i, z := range l {
		if again := ask(z, l[len(l)-1-i]); again != first[i] {
			t.Errorf("%v: %v, then %v", z, first[i], again)
		}
	}
}
