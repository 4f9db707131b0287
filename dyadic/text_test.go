package dyadic

import (
	"math/big"
	"math/rand"
	"slices"
	"strconv"
	"strings"
	"testing"

	"commutator/api"
)

// P2.4: Text and Parse are inverse to each other.

func textOf(a api.Dyadic) string {
	x := ratOf(a)
	if a.Den == 0 {
		return x.Num().String()
	}
	return x.Num().String() + "/2^" + strconv.Itoa(a.Den)
}

func checkText(t *testing.T, a api.Dyadic) {
	t.Helper()
	s := Text(a)
	if want := textOf(a); s != want {
		t.Fatalf("Text(%v) = %q, not %q", a, s, want)
	}
	if b, err := Parse(s); err != nil || !same(a, b) {
		t.Fatalf("Parse(%q) = %v, %v", s, b, err)
	}
}

func TestText(t *testing.T) {
	for _, a := range slices.Concat(numbers(), fineNumbers()) {
		checkText(t, a)
	}
	ten := big.NewInt(10)
	for n := range int64(100) {
		tens := new(big.Int).Exp(ten, big.NewInt(n), nil)
		for d := range int64(3) {
			m := new(big.Int).Add(tens, big.NewInt(d-1))
			checkText(t, fraction(m, 0))
			checkText(t, fraction(m.Neg(m), 3))
		}
	}
	r := rand.New(rand.NewSource(4))
	for range 300 {
		m := new(big.Int).Rand(r, power(r.Intn(5000)))
		checkText(t, fraction(m, r.Intn(api.MaxDen)))
		checkText(t, fraction(m.Neg(m), 0))
	}
}

func TestParseRefuses(t *testing.T) {
	for _, s := range []string{
		"", "-", "+", "+1", "--1", "-+1", "-0", "00", "01", "-01", "0001", "1-", " 1", "1 ", "1\n", "1.0", "1,0", "1_000", "1e3", "0x1", "a", "1a", "a1", "٣", "1\x00",
		"0/2^1", "-0/2^1", "2/2^1", "-2/2^1", "10/2^3", "4294967296/2^1", "-18446744073709551618/2^65536",
		"1/2^0", "1/2^-1", "1/2^+1", "1/2^01", "1/2^00", "1/2^", "1/2^ 1", "1/2^1 ", "1/2^a", "1/2^1a", "1/2^1_0", "1/2^0x1", "1/2^1/2^1", "1/2^1/2^", "1/2^65537", "1/2^99999",
		"1/2^4294967297", "1/2^18446744073709551617", "1/2^100000000000000000000000000000",
		"1/", "1/2", "3/4", "1/2 ^1", "1/3^1", "1 /2^1", "/2^1", "-/2^1", "01/2^1", "1/2**1", "1//2^1", "1/02^1",
		strings.Repeat("0", api.MaxText), strings.Repeat("1", api.MaxText-1) + "-", "0" + strings.Repeat("1", api.MaxText-1),
	} {
		if a, err := Parse(s); err != api.ErrForm || !same(a, api.Dyadic{}) {
			t.Errorf("Parse(%.40q) = %v, %v", s, a, err)
		}
	}
}

// Every string near the Text of a number is either the Text of another one or refused.
func TestParseIsTheInverse(t *testing.T) {
	const bytes = "0123459/2^- +."
	texts := []string{"0", "-7", "1234567890123", "-3/2^3", "5/2^65536", "18446744073709551617/2^64"}
	for _, text := range texts {
		for i := range len(text) + 1 {
			for _, c := range bytes {
				near := []string{text[:i] + string(c) + text[i:]}
				if i < len(text) {
					near = append(near, text[:i]+string(c)+text[i+1:], text[:i]+text[i+1:], text[:i])
				}
				for _, s := range near {
					a, err := Parse(s)
					if err == nil && (!Valid(a) || textOf(a) != s) || err != nil && (err != api.ErrForm || !same(a, api.Dyadic{})) {
						t.Errorf("Parse(%q) = %v, %v", s, a, err)
					}
				}
			}
		}
	}
}

func TestTextsOfTheGreatestLength(t *testing.T) {
	for _, s := range []string{
		strings.Repeat("9", api.MaxText),
		"-" + strings.Repeat("7", api.MaxText-1),
		"1" + strings.Repeat("0", api.MaxText-1),
		"-" + strings.Repeat("3", api.MaxText-9) + "/2^65536",
	} {
		a, err := Parse(s)
		if err != nil || !Valid(a) || Text(a) != s {
			t.Errorf("a text of %d bytes: %v, %v", len(s), Valid(a), err)
		}
		if x, ok := new(big.Rat).SetString(strings.Replace(s, "/2^65536", "/"+power(65536).String(), 1)); !ok || !same(a, formOf(x)) {
			t.Errorf("a text of %d bytes is read wrongly", len(s))
		}
	}
	for _, s := range []string{strings.Repeat("9", api.MaxText+1), strings.Repeat("x", api.MaxText+1), strings.Repeat("0", 1<<20)} {
		if a, err := Parse(s); err != api.ErrLarge || !same(a, api.Dyadic{}) {
			t.Errorf("a text of %d bytes: %v, %v", len(s), a, err)
		}
	}
	most := Sub(Shift(Of(1), 65536), Of(1))
	long := Mul(Mul(Mul(most, most), most), most)
	if text := Text(long); text != textOf(long) {
		t.Errorf("a text of %d bytes is wrong", len(text))
	} else if _, err := Parse(text); err != api.ErrLarge {
		t.Errorf("a text of %d bytes: %v", len(text), err)
	}
}
