package scales

import (
	"math/rand"
	"slices"
	"testing"

	"commutator/api"
	"commutator/dyadic"
	"commutator/interval"
)

// chosenCase is a diagram with ranges for which there are scales.
type chosenCase struct {
	d api.Diagram
	r []api.Interval
	f []int
}

func chosenCases(t *testing.T, seed int64) []chosenCase {
	t.Helper()
	r := rand.New(rand.NewSource(seed))
	var list []chosenCase
	for _, d := range diagrams(seed + 1) {
		ranges := anyRanges(r, len(d.Blocks), anyBits(r))
		f, err := Choose(d, ranges)
		if err == nil {
			list = append(list, chosenCase{d, ranges, f})
		} else if err != api.ErrLarge {
			t.Fatalf("Choose(%v, %v): %v", d, texts(ranges), err)
		}
	}
	if len(list) < 200 {
		t.Errorf("only %d diagrams have scales", len(list))
	}
	return list
}

// twice returns the ranges of signals that are twice as great.
func twice(ranges []api.Interval) []api.Interval {
	var list []api.Interval
	for _, a := range ranges {
		list = append(list, interval.Scale(a, dyadic.Of(2)))
	}
	return list
}

// hasRoom reports whether a signal in a and as much again are kept with f bits; both together at the end 2^31 count as kept.
func hasRoom(a api.Interval, f int) bool {
	raw := dyadic.Shift(interval.Mag(a), f)
	return dyadic.Cmp(dyadic.Add(raw, raw), dyadic.Shift(dyadic.Of(1), 31)) <= 0
}

// P13.2: chosen scales fit, and leave room for as much again; with one more bit they would not.
func TestChosenScalesFit(t *testing.T) {
	most, others := 0, 0
	for _, c := range chosenCases(t, 10) {
		if is, err := Fits(c.d, c.r, c.f); !is || err != nil {
			t.Fatalf("Fits(%v, %v, %v) = %v, %v", c.d, texts(c.r), c.f, is, err)
		}
		for i, a := range c.r {
			if c.f[i] < 0 || c.f[i] > api.MaxFrac || !hasRoom(a, c.f[i]) {
				t.Fatalf("%v has no room with %d bits", interval.Text(a), c.f[i])
			}
			if c.f[i] == api.MaxFrac {
				most++
			} else {
				others++
				if hasRoom(a, c.f[i]+1) {
					t.Fatalf("%v has room with %d bits and with one more", interval.Text(a), c.f[i])
				}
			}
		}
	}
	if most < 1000 || others < 1000 {
		t.Errorf("%d blocks have %d bits, %d fewer", most, api.MaxFrac, others)
	}
}

// P13.2: signals that are twice as great have one bit less, unless they may have all bits.
func TestTwiceAsGreat(t *testing.T) {
	seen := 0
	for _, c := range chosenCases(t, 12) {
		if slices.Contains(c.f, 0) {
			continue
		}
		f, err := Choose(c.d, twice(c.r))
		if len(f) != len(c.f) || err != nil {
			t.Fatalf("Choose for twice %v: %v, %v", texts(c.r), f, err)
		}
		for i, bits := range c.f {
			if bits < api.MaxFrac {
				seen++
			}
			if f[i] != bits-1 && (f[i] != bits || bits < api.MaxFrac) {
				t.Fatalf("%v has %d bits, but twice as much %d", interval.Text(c.r[i]), bits, f[i])
			}
		}
	}
	if seen < 1000 {
		t.Errorf("only %d ranges have fewer than all bits", seen)
	}
}

// narrowed returns ranges inside others.
func narrowed(r *rand.Rand, ranges []api.Interval) []api.Interval {
	var list []api.Interval
	for _, a := range ranges {
		parts := []int{r.Intn(17), r.Intn(17)}
		if r.Intn(3) == 0 {
			parts[0] = 0
		}
		slices.Sort(parts)
		lo := dyadic.Add(a.Lo, dyadic.Shift(dyadic.Mul(interval.Width(a), dyadic.Of(parts[0])), -4))
		hi := dyadic.Add(a.Lo, dyadic.Shift(dyadic.Mul(interval.Width(a), dyadic.Of(parts[1])), -4))
		list = append(list, api.Interval{Lo: lo, Hi: hi})
	}
	return list
}

// P13.2: narrower ranges do not get fewer bits.
func TestNarrowerRanges(t *testing.T) {
	r := rand.New(rand.NewSource(14))
	more := 0
	for _, c := range chosenCases(t, 15) {
		narrow := narrowed(r, c.r)
		f, err := Choose(c.d, narrow)
		if err != nil {
			t.Fatalf("Choose(%v, %v): %v", c.d, texts(narrow), err)
		}
		for i, a := range narrow {
			if !interval.Inside(a, c.r[i]) {
				t.Fatalf("%v is not inside %v", interval.Text(a), interval.Text(c.r[i]))
			}
			if f[i] < c.f[i] {
				t.Fatalf("%v has %d bits, and %v inside it %d", interval.Text(c.r[i]), c.f[i], interval.Text(a), f[i])
			}
			if f[i] > c.f[i] {
				more++
			}
		}
		for _, scales := range [][]int{c.f, f} {
			if is, err := Fits(c.d, narrow, scales); !is || err != nil {
				t.Fatalf("Fits(%v, %v, %v) = %v, %v", c.d, texts(narrow), scales, is, err)
			}
		}
	}
	if more < 1000 {
		t.Errorf("only %d ranges get more bits", more)
	}
}

// inputsOff returns the number of input blocks whose ports have other scales than f.
func inputsOff(d api.Diagram, f int) int {
	count := 0
	for _, b := range d.Blocks {
		if b.Kind == api.BlockInput && d.Inputs[b.Args[0]].Frac != f {
			count++
		}
	}
	return count
}

// P13.3: uniform scales fit, and need no shifts but at inputs.
func TestUniformScales(t *testing.T) {
	atInputs, none := 0, 0
	for _, c := range chosenCases(t, 16) {
		if len(c.f) == 0 {
			continue
		}
		f, err := Uniform(c.d, c.r)
		if want := slices.Repeat([]int{slices.Min(c.f)}, len(c.f)); !slices.Equal(f, want) || err != nil {
			t.Fatalf("Uniform(%v, %v) = %v, %v, not %v", c.d, texts(c.r), f, err, want)
		}
		if is, err := Fits(c.d, c.r, f); !is || err != nil {
			t.Fatalf("Fits(%v, %v, %v) = %v, %v", c.d, texts(c.r), f, is, err)
		}
		want := inputsOff(c.d, f[0])
		if n, err := Shifts(c.d, f); n != want || err != nil {
			t.Fatalf("Shifts(%v, %v) = %v, %v, not %v", c.d, f, n, err, want)
		}
		atInputs += want
		for i := range c.d.Inputs {
			c.d.Inputs[i].Frac = f[0]
		}
		if n, err := Shifts(c.d, f); n != 0 || err != nil {
			t.Fatalf("Shifts(%v, %v) = %v, %v", c.d, f, n, err)
		}
		none++
	}
	if atInputs < 500 || none < 200 {
		t.Errorf("%d shifts at inputs, %d diagrams without shifts", atInputs, none)
	}
}
