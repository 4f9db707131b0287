package sine

import (
	"math"
	"math/big"
	"math/rand"
	"strconv"
	"strings"
	"testing"
)

// The functions of this file follow the words of the chapter with numbers of math/big, so that they share nothing with the package.

const turn, half, quarter = 65536, 32768, 16384

// listed are the numbers that the chapter lists.
const listed = "0 804 1607 2410 3211 4011 4808 5602 6392 7179 7961 8739 9512 10278 11039 11793 12539 13278 14010 14732 15446 16151 16846 17530 18204 18868 19519 20159 20787 21403 22005 22594 23170 23732 24279 24812 25330 25832 26319 26790 27245 27684 28106 28511 28898 29269 29621 29956 30273 30572 30852 31114 31357 31581 31785 31971 32138 32285 32413 32521 32610 32679 32728 32758 32768"

func listedTable(t *testing.T) []int {
	t.Helper()
	var list []int
	for _, word := range strings.Fields(listed) {
		x, err := strconv.Atoi(word)
		if err != nil {
			t.Fatal(err)
		}
		list = append(list, x)
	}
	return list
}

// normOf returns the angle from 0 to turn - 1 that is the same as a.
func normOf(a int) int {
	return int(new(big.Int).Mod(big.NewInt(int64(a)), big.NewInt(turn)).Int64())
}

// sinOf and cosOf go back by quarters until they are in the first one; a is normed.
func sinOf(table []int, a int) int {
	if a >= quarter {
		return cosOf(table, a-quarter)
	}
	k, f := a/256, a%256
	return truncated(table[k], table[k+1]-table[k], f)
}

func cosOf(table []int, a int) int {
	if a >= quarter {
		return -sinOf(table, a-quarter)
	}
	k, f := a/256, a%256
	return truncated(table[64-k], -(table[64-k] - table[63-k]), f)
}

// truncated returns whole + part * f / 256, truncated toward 0.
func truncated(whole, part, f int) int {
	value := big.NewRat(int64(part)*int64(f), 256)
	value.Add(value, big.NewRat(int64(whole), 1))
	return int(new(big.Int).Quo(value.Num(), value.Denom()).Int64())
}

// exactSize returns the absolute value of 32768 times the exact sine of a.
// Multiples of a quarter turn are told apart, since the sine of a float that is near half a turn is not 0.
func exactSize(a int) float64 {
	switch b := normOf(a) % half; b {
	case 0:
		return 0
	case quarter:
		return 32768
	default:
		return 32768 * math.Sin(float64(min(b, half-b))*math.Pi/half)
	}
}

func exactCosSize(a int) float64 {
	return exactSize(normOf(a) + quarter)
}

// ints are ints of all sizes, many of them next to multiples of a quarter turn.
func ints() []int {
	list := []int{math.MinInt, math.MinInt + 1, math.MinInt + quarter, math.MaxInt - quarter, math.MaxInt - 1, math.MaxInt}
	for _, x := range []int{-5 * turn, -turn, -half, -quarter, 0, quarter, half, half + quarter, turn, 5*turn + 256, 1 << 32, -1 << 32, 1 << 56, -1 << 56, 1 << 62, -1 << 62} {
		list = append(list, x-1, x, x+1, x+100)
	}
	r := rand.New(rand.NewSource(1))
	for range 2000 {
		list = append(list, int(r.Uint64())>>r.Intn(64))
	}
	return list
}
