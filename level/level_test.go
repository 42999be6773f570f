package level_test

import (
	"math"
	"math/big"
	"slices"
	"strconv"
	"strings"
	"sync"
	"testing"

	"swatch/api"
	"swatch/level"
)

// top is the greatest number for which the chapter's promises hold; -top is the least one.
const top = 1 << 20

// wrongBits are numbers of bits that no level has.
var wrongBits = []int{math.MinInt, -top, -8, -1, 0, 9, 10, 16, 63, 64, 65, top, math.MaxInt}

// wide is what Wide should answer, written as digits.
func wide(t *testing.T, v, bits int) int {
	digits := ""
	for i := bits - 1; i >= 0; i-- {
		digits += strconv.Itoa(v >> i & 1)
	}
	n, err := strconv.ParseInt(strings.Repeat(digits, 8)[:8], 2, 64)
	if err != nil {
		t.Fatal(err)
	}
	return int(n)
}

func TestWide(t *testing.T) { // P3.1
	if n := level.Wide(5, 3); n != 182 {
		t.Error("the chapter's example:", n)
	}
	for bits := 1; bits <= 8; bits++ {
		for v := -600; v <= 600; v++ {
			if n, want := level.Wide(v, bits), wide(t, v, bits); n != want {
				t.Errorf("Wide(%d, %d) = %d, not %d", v, bits, n, want)
			}
		}
	}
	for _, c := range [][3]int{{top, 8, 0}, {top - 1, 1, 255}, {-top, 5, 0}, {top + 2, 2, 170}, {-top + 5, 3, 182}, {math.MaxInt, 4, 255}, {math.MinInt, 4, 0}} {
		if n := level.Wide(c[0], c[1]); n != c[2] {
			t.Errorf("Wide(%d, %d) = %d, not %d", c[0], c[1], n, c[2])
		}
	}
}

func TestWrongBits(t *testing.T) { // P3.1, P0
	for _, bits := range wrongBits {
		for _, v := range []int{math.MinInt, -top, -1, 0, 1, 3, 128, 255, top, math.MaxInt} {
			if n := level.Wide(v, bits); n != 0 {
				t.Errorf("Wide(%d, %d) = %d", v, bits, n)
			}
			if n := level.Near(v, bits); n != 0 {
				t.Errorf("Near(%d, %d) = %d", v, bits, n)
			}
		}
	}
}

func TestWideIncreases(t *testing.T) { // P3.4
	for bits := 1; bits <= 8; bits++ {
		last := 1<<bits - 1
		if a, b := level.Wide(0, bits), level.Wide(last, bits); a != 0 || b != 255 {
			t.Errorf("%d bits: from %d to %d", bits, a, b)
		}
		for v := 1; v <= last; v++ {
			if a, b := level.Wide(v-1, bits), level.Wide(v, bits); a >= b {
				t.Errorf("%d bits: level %d is %d, level %d is %d", bits, v-1, a, v, b)
			}
		}
	}
}

func apart(a, b int) int { return max(a-b, b-a) }

func TestNear(t *testing.T) { // P3.1, P3.4
	numbers := []int{-top, -top + 1, -1000, 1000, top - 1, top}
	for n := -300; n <= 600; n++ {
		numbers = append(numbers, n)
	}
	for bits := 1; bits <= 8; bits++ {
		for _, n := range numbers {
			got := level.Near(n, bits)
			if got < 0 || got >= 1<<bits {
				t.Fatalf("Near(%d, %d) = %d", n, bits, got)
			}
			far := apart(wide(t, got, bits), n)
			for v := range 1 << bits {
				f := apart(wide(t, v, bits), n)
				if f < far || f == far && v < got {
					t.Errorf("Near(%d, %d) = %d, but %d is nearer or as near and less", n, bits, got, v)
				}
			}
		}
	}
}

func TestNearOfTwo(t *testing.T) { // P3.1: two levels that are equally near
	found := 0
	for bits := 1; bits <= 8; bits++ {
		for v := range 1<<bits - 1 {
			a, b := level.Wide(v, bits), level.Wide(v+1, bits)
			if (a+b)%2 != 0 {
				continue
			}
			found++
			if n := level.Near((a+b)/2, bits); n != v {
				t.Errorf("%d bits: %d stands between levels %d and %d, but Near is %d", bits, (a+b)/2, v, v+1, n)
			}
		}
	}
	if found == 0 {
		t.Error("no such numbers")
	}
	if n := level.Near(4, 6); n != 1 {
		t.Error("a number that has a level of its own:", n)
	}
}

func TestNearOfWide(t *testing.T) { // P3.4: a level is nearest to itself, and the ends to all beyond them
	for bits := 1; bits <= 8; bits++ {
		last := 1<<bits - 1
		for v := range last + 1 {
			if n := level.Near(level.Wide(v, bits), bits); n != v {
				t.Errorf("%d bits: %d becomes %d", bits, v, n)
			}
		}
		for _, n := range []int{-top, -256, -1} {
			if v := level.Near(n, bits); v != 0 {
				t.Errorf("Near(%d, %d) = %d", n, bits, v)
			}
		}
		for _, n := range []int{256, 511, top} {
			if v := level.Near(n, bits); v != last {
				t.Errorf("Near(%d, %d) = %d", n, bits, v)
			}
		}
	}
}

func TestClamp(t *testing.T) { // P3.2
	for _, c := range [][3]int{
		{2, 3, 2}, {3, 3, 3}, {4, 3, 3}, {254, 255, 254}, {255, 255, 255}, {256, 255, 255}, {2048, 2047, 2047},
		{0, 0, 0}, {1, 0, 0}, {-1, 0, 0}, {-1, 3, 0}, {0, 3, 0},
		{5, -1, 0}, {-1, -1, 0}, {-5, -1, 0}, {-1, -5, 0}, {0, -5, 0},
		{top, top, top}, {top, top - 1, top - 1}, {-top, top, 0}, {top, -top, 0}, {-top, -top, 0},
		{math.MaxInt, math.MaxInt, math.MaxInt}, {math.MinInt, math.MaxInt, 0}, {math.MaxInt, math.MinInt, 0}, {math.MinInt, math.MinInt, 0},
	} {
		if n := level.Clamp(c[0], c[1]); n != c[2] {
			t.Errorf("Clamp(%d, %d) = %d, not %d", c[0], c[1], n, c[2])
		}
	}
}

// mix is what Mix should answer: big.Int's Div rounds down for an of above 0.
func mix(a, b, k, of, add int) int {
	n := func(v int) *big.Int { return big.NewInt(int64(v)) }
	sum := new(big.Int).Mul(n(a), n(of-k))
	sum.Add(sum, new(big.Int).Mul(n(b), n(k)))
	sum.Add(sum, n(add))
	return int(sum.Div(sum, n(of)).Int64())
}

func TestMixExamples(t *testing.T) { // P3.2
	for _, c := range [][6]int{
		{0, 255, 1, 3, 0, 85}, {255, 0, 1, 3, 0, 170}, {255, 0, 2, 3, 0, 85}, {10, 11, 32, 64, 32, 11}, {10, 11, 31, 64, 32, 10},
		{7, 9, 0, 1, 0, 7}, {7, 9, 1, 1, 0, 9}, {0, 0, 0, 1, 5, 5}, {0, 0, 0, 2, 5, 2}, {0, 0, 0, 2, -5, -3},
		{10, 20, -1, 2, 0, 5}, {10, 20, 3, 2, 0, 25}, {10, 20, -5, 2, 0, -15}, // k below 0 and above of
		{-5, 0, 1, 2, 0, -3}, {-4, 0, 1, 2, 0, -2}, {-1, -1, 0, 7, 0, -1}, {-1, -2, 1, 7, 0, -2}, {0, 0, 0, top, -1, -1},
	} {
		if n := level.Mix(c[0], c[1], c[2], c[3], c[4]); n != c[5] {
			t.Error(c, n)
		}
	}
	for _, of := range []int{0, -1, -3, -top, math.MinInt} {
		for _, v := range []int{math.MinInt, -top, -1, 0, 5, top, math.MaxInt} {
			if n := level.Mix(v, 2*(v/3), v, of, v); n != 0 {
				t.Errorf("an of of %d answers %d", of, n)
			}
		}
	}
}

func TestMix(t *testing.T) { // P3.2
	numbers := []int{-top, -100, -5, -1, 0, 1, 2, 31, 255, top}
	for _, a := range numbers {
		for _, b := range numbers {
			for _, k := range []int{-top, -7, -1, 0, 1, 2, 3, 8, 64, top} {
				for _, of := range []int{1, 2, 3, 5, 7, 14, 64, top} {
					for _, add := range []int{-top, -33, -1, 0, 1, 32, top} {
						if n, want := level.Mix(a, b, k, of, add), mix(a, b, k, of, add); n != want {
							t.Fatalf("Mix(%d, %d, %d, %d, %d) = %d, not %d", a, b, k, of, add, n, want)
						}
					}
				}
			}
		}
	}
}

func TestBestExamples(t *testing.T) { // P3.3
	for _, c := range []struct {
		name      string
		levels, l []int
		want      int
	}{
		{"both nil", nil, nil, 0},
		{"both empty", []int{}, []int{}, 0},
		{"no level", nil, []int{1, 2}, 0},
		{"an empty slice of levels", []int{}, []int{7}, 0},
		{"no number: all are equally good", []int{9, 3, 0}, nil, 0},
		{"an empty slice of numbers", []int{9, 3, 0}, []int{}, 0},
		{"one level", []int{4}, []int{top}, 0},
		{"first", []int{1, 5, 9}, []int{0}, 0},
		{"last", []int{1, 5, 9}, []int{8}, 2},
		{"equal levels", []int{5, 1, 9, 1}, []int{0, 2}, 1},
		{"one below and one above", []int{4, 6}, []int{5}, 0},
		{"one above and one below", []int{6, 4}, []int{5}, 0},
		{"the later ones are as good", []int{90, 6, 4, 6, 4}, []int{5, 5}, 1},
		{"squares, not differences", []int{0, 4}, []int{0, 0, 0, 10}, 1},
		{"all of them, not the nearest one", []int{0, 6}, []int{0, 9, 9}, 1},
		{"negative numbers", []int{3, -3, -4}, []int{-5, -2}, 1},
		{"the ends", []int{top, -top}, []int{-top, -top, top}, 1},
		{"the ends, equally good", []int{-top, top}, []int{-top, top}, 0},
	} {
		if n := level.Best(c.levels, c.l); n != c.want {
			t.Errorf("%s: Best(%v, %v) = %d, not %d", c.name, c.levels, c.l, n, c.want)
		}
	}
}

// spread is a list of many numbers, from -most to most, that looks without order but is the same each time.
func spread(seed uint32, many, most int) []int {
	l := make([]int, many)
	for i := range l {
		seed = seed*1664525 + 1013904223
		l[i] = int(seed>>8)%(2*most+1) - most
	}
	return l
}

// far is the sum that Best should make least.
func far(n int, l []int) int {
	sum := 0
	for _, v := range l {
		sum += (n - v) * (n - v)
	}
	return sum
}

func checkBest(t *testing.T, levels, l []int) {
	t.Helper()
	got := level.Best(levels, l)
	if got < 0 || got >= len(levels) {
		t.Fatalf("Best of %d levels is %d", len(levels), got)
	}
	f := far(levels[got], l)
	for i, n := range levels {
		if g := far(n, l); g < f || g == f && i < got {
			t.Errorf("Best is %d, but %d is better or as good and earlier", got, i)
		}
	}
}

func TestBest(t *testing.T) { // P3.3, P3.4
	for seed := uint32(0); seed < 500; seed++ {
		many := 1 + int(seed%9)
		checkBest(t, spread(seed, many, 6), spread(seed+7777, int(seed/9%6), 6))
		checkBest(t, spread(seed, many, top), spread(seed+7777, many, top))
	}
	checkBest(t, spread(1, 1000, top), spread(2, 1000, top))
	ends := slices.Repeat([]int{top}, 1000)
	checkBest(t, slices.Repeat([]int{-top, top - 1}, 500), ends)
	checkBest(t, slices.Repeat([]int{-top}, 1000), ends)
}

func TestBestKeepsArguments(t *testing.T) { // R3
	levels, l := []int{5, 1, 9, 1}, []int{4, 0, 2}
	level.Best(levels, l)
	if !slices.Equal(levels, []int{5, 1, 9, 1}) || !slices.Equal(l, []int{4, 0, 2}) {
		t.Error(levels, l)
	}
}

// tile is a tile with numbers from -most to most.
func tile(seed uint32, most int) api.Tile {
	var a api.Tile
	for i, n := range spread(seed, 64, most) {
		a[i/4][i%4] = n
	}
	return a
}

func TestErrorOfOneNumber(t *testing.T) { // P3.3
	for i := range 16 {
		for c := range 4 {
			var a, b api.Tile
			a[i][c], b[i][c] = 10, 17
			for mask := -20; mask <= 40; mask++ {
				want := 0
				if mask&(1<<c) != 0 {
					want = 49
				}
				if n, m := level.Error(a, b, mask), level.Error(b, a, mask); n != want || m != want {
					t.Errorf("texel %d, channel %d, mask %d: %d and %d, not %d", i, c, mask, n, m, want)
				}
			}
		}
	}
}

func TestError(t *testing.T) { // P3.3
	for seed := uint32(0); seed < 50; seed++ {
		a, b := tile(seed, 2047), tile(seed+999, 2047)
		var by [4]int
		for i := range 16 {
			for c := range 4 {
				by[c] += (a[i][c] - b[i][c]) * (a[i][c] - b[i][c])
			}
		}
		for mask := range 16 {
			want := mask&1*by[0] + mask>>1&1*by[1] + mask>>2&1*by[2] + mask>>3*by[3]
			if n := level.Error(a, b, mask); n != want {
				t.Errorf("mask %d: %d, not %d", mask, n, want)
			}
		}
		if n := level.Error(a, a, 15); n != 0 {
			t.Error("a tile and itself:", n)
		}
	}
}

func TestErrorAtTheEnds(t *testing.T) { // P3.3
	var a, b api.Tile
	for i := range a {
		a[i], b[i] = api.Texel{top, top, -top, -top}, api.Texel{-top, -top, top, top}
	}
	for mask, channels := range map[int]int{0: 0, 1: 1, 8: 1, 5: 2, 7: 3, 15: 4, 16: 0, 31: 4, -1: 4, -16: 0, top: 0, -top: 0, top + 2: 1, math.MaxInt: 4, math.MinInt: 0} {
		if n := level.Error(a, b, mask); n != channels*16<<42 {
			t.Errorf("mask %d: %d", mask, n)
		}
	}
}

func TestNoPanic(t *testing.T) { // P0: numbers past those of the promises only have to end
	far := []int{math.MinInt, math.MinInt + 1, -top - 1, -1, 0, 1, top + 1, math.MaxInt - 1, math.MaxInt}
	var a, b api.Tile
	for i := range 64 {
		a[i/4][i%4], b[i/4][i%4] = far[i%len(far)], far[i*5%len(far)]
	}
	for _, n := range far {
		for _, m := range far {
			for bits := 1; bits <= 8; bits++ {
				level.Wide(n, bits)
				level.Near(n, bits)
			}
			for _, k := range far {
				level.Mix(n, m, k, 3, k)
				level.Mix(3, n, k, m, n)
			}
			level.Best([]int{n, m}, far)
			level.Error(a, b, n)
		}
	}
}

func TestAtTheSameTime(t *testing.T) { // R4, R5
	levels, l := spread(3, 100, 300), spread(4, 50, 300)
	a, b := tile(5, 255), tile(6, 255)
	answers := func() [5]int {
		return [5]int{level.Wide(77, 7), level.Near(77, 5), level.Mix(-9, 200, 3, 7, 3), level.Best(levels, l), level.Error(a, b, 11)}
	}
	want := answers()
	var wait sync.WaitGroup
	for range 8 {
		wait.Go(func() {
			for range 100 {
				if got := answers(); got != want {
					t.Error(got, want)
				}
			}
		})
	}
	wait.Wait()
}
