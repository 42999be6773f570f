package bcone_test

import (
	"math"
	"slices"
	"sync"
	"testing"

	"swatch/api"
	"swatch/bcone"
)

// last is the greatest colour, and top the greatest number of which level.Near says what it answers.
const (
	last = 65535
	top  = 1 << 20
)

// some are colours: the least and the greatest, of a single channel, of single bits, and others.
var some = []int{0, 1, 31, 32, 2015, 2016, 2017, 2048, 0x1234, 0x5678, 0x7fff, 0x8000, 0xa5c3, 63487, 63488, 65534, last}

// beyond are numbers that are no colours.
var beyond = []int{math.MinInt, -top, -last - 1, -1, last + 1, last + 2, 2 * (last + 1), top, math.MaxInt}

// wrongSizes are numbers of bytes that no block has.
var wrongSizes = []int{0, 1, 2, 4, 7, 9, 15, 16, 64}

// wide is a level of 5 or of 6 bits as one of 8.
func wide(v, bits int) int {
	return v<<(8-bits) | v>>(2*bits-8)
}

// colour is what Colour should answer.
func colour(n int) api.Texel {
	return api.Texel{wide(n/2048%32, 5), wide(n/32%64, 6), wide(n%32, 5), 255}
}

// near is the level of 5 or of 6 bits that is nearest to a number, the lesser one of two.
func near(n, bits int) int {
	best := 0
	for v := range 1 << bits {
		if max(wide(v, bits)-n, n-wide(v, bits)) < max(wide(best, bits)-n, n-wide(best, bits)) {
			best = v
		}
	}
	return best
}

// pack is what Pack should answer.
func pack(t api.Texel) int {
	return near(t[0], 5)*2048 + near(t[1], 6)*32 + near(t[2], 5)
}

// palette is what Palette should answer.
func palette(a, b int, four bool) [4]api.Texel {
	p := [4]api.Texel{colour(a), colour(b)}
	for c := range 3 {
		if four || a > b {
			p[2][c] = (2*p[0][c] + p[1][c]) / 3
			p[3][c] = (p[0][c] + 2*p[1][c]) / 3
		} else {
			p[2][c] = (p[0][c] + p[1][c]) / 2
		}
	}
	p[2][3] = 255
	if four || a > b {
		p[3][3] = 255
	}
	return p
}

// block is what Join should answer.
func block(a, b int, which [16]int) []byte {
	out := []byte{byte(a % 256), byte(a / 256), byte(b % 256), byte(b / 256)}
	for row := range 4 {
		w := which[4*row : 4*row+4]
		out = append(out, byte(w[0]+4*w[1]+16*w[2]+64*w[3]))
	}
	return out
}

// mixed are indices of all kinds, others for each number.
func mixed(seed int) [16]int {
	var which [16]int
	for i := range which {
		which[i] = (seed*7 + i*i + seed*i/3 + i/5) % 4
	}
	return which
}

// blocks are blocks with all pairs of some colours, and of bytes that are all alike.
func blocks() [][]byte {
	l := [][]byte{make([]byte, 8), slices.Repeat([]byte{255}, 8), slices.Repeat([]byte{0x1b}, 8), {1, 2, 3, 4, 5, 6, 7, 8}, {255, 0, 0, 255, 0xe4, 0x1b, 0x39, 0xc6}}
	for i, a := range some {
		for j, b := range some {
			l = append(l, block(a, b, mixed(i*len(some)+j)))
		}
	}
	return l
}

func TestColour(t *testing.T) { // P6.1
	for n, want := range map[int]api.Texel{
		0:         {0, 0, 0, 255},
		63488:     {255, 0, 0, 255},
		2016:      {0, 255, 0, 255},
		31:        {0, 0, 255, 255},
		65535:     {255, 255, 255, 255},
		0x0821:    {8, 4, 8, 255},
		0x8410:    {132, 130, 132, 255},
		1<<15 | 1: {132, 0, 8, 255},
	} {
		if x := bcone.Colour(n); x != want {
			t.Errorf("Colour(%d) = %v, not %v", n, x, want)
		}
	}
	for n := range last + 1 {
		if x := bcone.Colour(n); x != colour(n) {
			t.Fatalf("Colour(%d) = %v, not %v", n, x, colour(n))
		}
	}
}

func TestColourBeyond(t *testing.T) { // P6.1: of other numbers only the lowest 16 bits are significant
	for _, n := range some {
		for _, above := range []int{1, 2, 3, 5, 0x1234, 1 << 20, 1<<46 - 1, 1 << 46, -1, -2, -7, -(1 << 47)} {
			if x := bcone.Colour(above*(last+1) + n); x != colour(n) {
				t.Errorf("Colour(%d * 65536 + %d) = %v, not %v", above, n, x, colour(n))
			}
		}
	}
	for n, same := range map[int]int{-1: 65535, -2048: 63488, -65536: 0, -65535: 1, math.MaxInt: 65535, math.MinInt: 0, math.MinInt + 31: 31} {
		if x := bcone.Colour(n); x != colour(same) {
			t.Errorf("Colour(%d) = %v, not %v", n, x, colour(same))
		}
	}
}

func TestPackExact(t *testing.T) { // P6.3
	for n := range last + 1 {
		if got := bcone.Pack(bcone.Colour(n)); got != n {
			t.Fatalf("Pack(Colour(%d)) = %d", n, got)
		}
	}
}

func TestPack(t *testing.T) { // P6.1
	for c := range 3 {
		for v := -40; v <= 300; v++ {
			x := api.Texel{77, 130, 201, 9}
			x[c] = v
			if got, want := bcone.Pack(x), pack(x); got != want {
				t.Errorf("Pack(%v) = %d, not %d", x, got, want)
			}
		}
	}
	for i := range 4000 {
		x := api.Texel{i * 37 % 256, i * 91 % 256, i * 151 % 256, i % 256}
		if got, want := bcone.Pack(x), pack(x); got != want {
			t.Errorf("Pack(%v) = %d, not %d", x, got, want)
		}
	}
}

func TestPackEdges(t *testing.T) { // P6.1
	for x, want := range map[api.Texel]int{
		{0, 0, 0, 0}:               0,
		{255, 0, 0, 0}:             63488,
		{0, 255, 0, 255}:           2016,
		{0, 0, 255, 300}:           31,
		{255, 255, 255, 255}:       65535,
		{256, 1000, top, 0}:        65535,
		{-1, -1000, -top, 0}:       0,
		{-5, 300, -5, -1}:          2016,
		{4, 2, 4, 0}:               0, // between two levels: the lesser one
		{5, 3, 5, 0}:               0x0821,
		{128, 128, 128, -top}:      near(128, 5)*2049 + near(128, 6)*32,
		{top, -top, top, top}:      0xf81f,
		{-top, top, -top, -top}:    0x07e0,
		{0, 0, 0, math.MaxInt}:     0,
		{255, 255, 0, math.MinInt}: 0xffe0,
	} {
		if got := bcone.Pack(x); got != want {
			t.Errorf("Pack(%v) = %d, not %d", x, got, want)
		}
	}
	for _, n := range []int{math.MinInt, math.MinInt + 1, math.MaxInt - 1, math.MaxInt} { // P0
		if got := bcone.Pack(api.Texel{n, n, n, n}); got < 0 || got > last {
			t.Errorf("Pack of channels %d = %d", n, got)
		}
	}
}

func TestPalette(t *testing.T) { // P6.1
	for _, a := range some {
		for _, b := range some {
			for _, four := range []bool{false, true} {
				if p, want := bcone.Palette(a, b, four), palette(a, b, four); p != want {
					t.Errorf("Palette(%d, %d, %t) = %v, not %v", a, b, four, p, want)
				}
			}
		}
	}
	for i := range 20000 {
		a, b := i*40503%65536, i*28657%65536
		if p, want := bcone.Palette(a, b, i%3 == 0), palette(a, b, i%3 == 0); p != want {
			t.Fatalf("Palette(%d, %d, %t) = %v, not %v", a, b, i%3 == 0, p, want)
		}
	}
}

func TestPaletteEdges(t *testing.T) { // P6.1: a greater than, equal to and less than b, with four and without it
	black, white, clear := api.Texel{0, 0, 0, 255}, api.Texel{255, 255, 255, 255}, api.Texel{}
	red, blue := api.Texel{255, 0, 0, 255}, api.Texel{0, 0, 255, 255}
	third, half, more := api.Texel{85, 85, 85, 255}, api.Texel{127, 127, 127, 255}, api.Texel{170, 170, 170, 255}
	for _, c := range []struct {
		a, b int
		four bool
		want [4]api.Texel
	}{
		{last, 0, false, [4]api.Texel{white, black, more, third}},
		{last, 0, true, [4]api.Texel{white, black, more, third}},
		{0, last, false, [4]api.Texel{black, white, half, clear}},
		{0, last, true, [4]api.Texel{black, white, third, more}},
		{last, last, false, [4]api.Texel{white, white, white, clear}},
		{last, last, true, [4]api.Texel{white, white, white, white}},
		{0, 0, false, [4]api.Texel{black, black, black, clear}},
		{0, 0, true, [4]api.Texel{black, black, black, black}},
		{63488, 31, false, [4]api.Texel{red, blue, {170, 0, 85, 255}, {85, 0, 170, 255}}},
		{31, 63488, false, [4]api.Texel{blue, red, {127, 0, 127, 255}, clear}},
		{1, 0, false, [4]api.Texel{{0, 0, 8, 255}, black, {0, 0, 5, 255}, {0, 0, 2, 255}}},
		{0, 1, false, [4]api.Texel{black, {0, 0, 8, 255}, {0, 0, 4, 255}, clear}},
		{0, 32, true, [4]api.Texel{black, {0, 4, 0, 255}, {0, 1, 0, 255}, {0, 2, 0, 255}}},
	} {
		if p := bcone.Palette(c.a, c.b, c.four); p != c.want {
			t.Errorf("Palette(%d, %d, %t) = %v, not %v", c.a, c.b, c.four, p, c.want)
		}
	}
}

func TestPaletteBeyond(t *testing.T) { // P0: numbers that are no colours do not panic
	for _, a := range beyond {
		for _, b := range append([]int{0, last}, beyond...) {
			for _, four := range []bool{false, true} {
				if p := bcone.Palette(a, b, four); p[0] != bcone.Colour(a) || p[1] != bcone.Colour(b) {
					t.Errorf("Palette(%d, %d, %t) = %v", a, b, four, p)
				}
				bcone.Palette(b, a, four)
			}
		}
	}
}

func TestJoin(t *testing.T) { // P6.2
	b, e := bcone.Join(0x1234, 0x5678, [16]int{1, 2, 3, 0, 3, 0, 0, 0, 0, 1, 0, 0, 0, 0, 0, 2})
	if e != api.OK || !slices.Equal(b, []byte{0x34, 0x12, 0x78, 0x56, 0x39, 0x03, 0x04, 0x80}) {
		t.Error(b, e)
	}
	for i, a := range some {
		for j, c := range some {
			which := mixed(i*len(some) + j)
			if b, e := bcone.Join(a, c, which); e != api.OK || !slices.Equal(b, block(a, c, which)) {
				t.Errorf("Join(%d, %d, %v) = %v, %d", a, c, which, b, e)
			}
		}
	}
}

func TestEachIndex(t *testing.T) { // P6.2: each index at each texel
	for i := range 16 {
		for v := range 4 {
			for rest := range 4 {
				which := [16]int{}
				for k := range which {
					which[k] = rest
				}
				which[i] = v
				b, e := bcone.Join(0x1234, 0x5678, which)
				if e != api.OK || !slices.Equal(b, block(0x1234, 0x5678, which)) {
					t.Errorf("Join of %v: %v, %d", which, b, e)
				}
				x, y, w, e := bcone.Parts(b)
				if x != 0x1234 || y != 0x5678 || w != which || e != api.OK {
					t.Errorf("Parts(%v) = %d, %d, %v, %d", b, x, y, w, e)
				}
				for _, four := range []bool{false, true} {
					p := palette(0x1234, 0x5678, four)
					u, e := bcone.Decode(b, four)
					if e != api.OK || u[i] != p[v] || u[(i+1)%16] != p[rest] {
						t.Errorf("Decode(%v, %t) = %v, %d", b, four, u, e)
					}
				}
			}
		}
	}
}

func TestPartsOfJoin(t *testing.T) { // P6.3
	for i := range 5000 {
		a, b, which := i*40503%65536, i*28657%65536, mixed(i)
		l, e := bcone.Join(a, b, which)
		if e != api.OK {
			t.Fatal(e)
		}
		if x, y, w, e := bcone.Parts(l); x != a || y != b || w != which || e != api.OK {
			t.Fatalf("Parts of Join(%d, %d, %v): %d, %d, %v, %d", a, b, which, x, y, w, e)
		}
	}
}

func TestJoinOfParts(t *testing.T) { // P6.3
	for _, b := range blocks() {
		x, y, w, e := bcone.Parts(b)
		if e != api.OK {
			t.Fatal(b, e)
		}
		if c, e := bcone.Join(x, y, w); e != api.OK || !slices.Equal(c, b) {
			t.Errorf("Join of Parts(%v): %v, %d", b, c, e)
		}
	}
	for i := range 64 { // each bit on its own
		b := make([]byte, 8)
		b[i/8] = 1 << (i % 8)
		x, y, w, e := bcone.Parts(b)
		if c, f := bcone.Join(x, y, w); e != api.OK || f != api.OK || !slices.Equal(c, b) {
			t.Errorf("Join of Parts(%v): %v, %d, %d", b, c, e, f)
		}
	}
}

func TestAlikeBytes(t *testing.T) { // P6.2: blocks of all 0 and of all 255
	zeros, full := make([]byte, 8), slices.Repeat([]byte{255}, 8)
	if x, y, w, e := bcone.Parts(zeros); x != 0 || y != 0 || w != [16]int{} || e != api.OK {
		t.Error(x, y, w, e)
	}
	x, y, w, e := bcone.Parts(full)
	if x != last || y != last || e != api.OK || slices.Min(w[:]) != 3 || slices.Max(w[:]) != 3 {
		t.Error(x, y, w, e)
	}
	for _, c := range []struct {
		b    []byte
		four bool
		want api.Texel
	}{
		{zeros, false, api.Texel{0, 0, 0, 255}},
		{zeros, true, api.Texel{0, 0, 0, 255}},
		{full, false, api.Texel{}},
		{full, true, api.Texel{255, 255, 255, 255}},
	} {
		u, e := bcone.Decode(c.b, c.four)
		if e != api.OK {
			t.Error(e)
		}
		for i, x := range u {
			if x != c.want {
				t.Errorf("Decode(%v, %t): texel %d is %v", c.b, c.four, i, x)
			}
		}
	}
}

func TestDecode(t *testing.T) { // P6.2, P6.3
	for _, b := range blocks() {
		x, y, w, e := bcone.Parts(b)
		if e != api.OK {
			t.Fatal(b, e)
		}
		for _, four := range []bool{false, true} {
			p := bcone.Palette(x, y, four)
			u, e := bcone.Decode(b, four)
			if e != api.OK {
				t.Fatal(b, e)
			}
			for i := range u {
				if u[i] != p[w[i]] {
					t.Errorf("Decode(%v, %t): texel %d is %v, not %v", b, four, i, u[i], p[w[i]])
				}
			}
			inRange(t, u, p, four || x > y)
		}
	}
}

// inRange tells of texels beyond the first two of a palette, save those that are 0 in all channels, if there may be such.
func inRange(t *testing.T, u api.Tile, p [4]api.Texel, four bool) {
	t.Helper()
	for i, x := range u {
		if x == (api.Texel{}) && !four {
			continue
		}
		for c := range x {
			if x[c] < min(p[0][c], p[1][c]) || x[c] > max(p[0][c], p[1][c]) {
				t.Errorf("texel %d is %v: not between %v and %v", i, x, p[0], p[1])
			}
		}
	}
}

func TestWrongSizes(t *testing.T) { // P6.2, R1, R2
	l := [][]byte{nil}
	for _, size := range wrongSizes {
		l = append(l, make([]byte, size), slices.Repeat([]byte{255}, size), make([]byte, size, size+8))
	}
	for _, b := range l {
		if x, y, w, e := bcone.Parts(b); x != 0 || y != 0 || w != [16]int{} || e != api.ErrArg {
			t.Errorf("Parts of %d bytes: %d, %d, %v, %d", len(b), x, y, w, e)
		}
		for _, four := range []bool{false, true} {
			if u, e := bcone.Decode(b, four); u != (api.Tile{}) || e != api.ErrArg {
				t.Errorf("Decode of %d bytes: %v, %d", len(b), u, e)
			}
		}
	}
}

func TestWrongColours(t *testing.T) { // P6.2, R1
	for _, n := range beyond {
		for _, c := range [][2]int{{n, 0}, {0, n}, {n, last}, {last, n}, {n, n}} {
			for _, which := range [][16]int{{}, mixed(3), {0: -1}, {15: 4}} {
				if b, e := bcone.Join(c[0], c[1], which); len(b) != 0 || e != api.ErrArg {
					t.Errorf("Join(%d, %d, %v) = %v, %d", c[0], c[1], which, b, e)
				}
			}
		}
	}
}

func TestWrongIndices(t *testing.T) { // P6.2, R1
	for i := range 16 {
		for _, v := range []int{math.MinInt, -last, -4, -1, 4, 5, 7, 8, 255, last, 1 << 32, math.MaxInt} {
			which := mixed(i)
			which[i] = v
			if b, e := bcone.Join(0x1234, 0x5678, which); len(b) != 0 || e != api.ErrArg {
				t.Errorf("Join with index %d at texel %d: %v, %d", v, i, b, e)
			}
		}
	}
}

func TestNothingShared(t *testing.T) { // R3
	for _, b := range blocks() {
		kept := slices.Clone(b)
		x, y, w, _ := bcone.Parts(b)
		bcone.Decode(b, true)
		bcone.Decode(b, false)
		if !slices.Equal(b, kept) {
			t.Errorf("%v has become %v", kept, b)
		}
		first, _ := bcone.Join(x, y, w)
		second, _ := bcone.Join(x, y, w)
		clear(first)
		if !slices.Equal(second, kept) {
			t.Errorf("Join's answers share memory: %v has become %v", kept, second)
		}
	}
	long := slices.Repeat([]byte{0xe4}, 24)
	bcone.Parts(long[8:16])
	bcone.Decode(long[8:16], false)
	if !slices.Equal(long, slices.Repeat([]byte{0xe4}, 24)) {
		t.Error("bytes around the block have changed")
	}
}

func TestManyAtOnce(t *testing.T) { // R4, R5
	shared := blocks()
	var all sync.WaitGroup
	for k := range 8 {
		all.Go(func() {
			for i, b := range shared {
				x, y, w, e := bcone.Parts(b)
				c, f := bcone.Join(x, y, w)
				u, g := bcone.Decode(b, k%2 == 0)
				p := palette(x, y, k%2 == 0)
				if e != api.OK || f != api.OK || g != api.OK || !slices.Equal(c, b) || u[k] != p[w[k]] {
					t.Errorf("block %d: %v, %d, %d, %d", i, c, e, f, g)
				}
			}
		})
	}
	all.Wait()
}
