package bcfour_test

import (
	"math"
	"slices"
	"sync"
	"testing"

	"swatch/api"
	"swatch/bcfour"
	"swatch/level"
)

// most is the greatest number of a texel.
const most = 255

// some are ends of ramps: the least and the greatest, single bits, and others.
var some = []int{0, 1, 2, 3, 4, 7, 8, 9, 16, 50, 64, 70, 100, 127, 128, 129, 170, 200, 251, 253, 254, most}

// beyond are numbers that are no ends of a ramp.
var beyond = []int{math.MinInt, math.MinInt + 1, -1 << 32, -257, -256, -255, -1, 256, 257, 511, 512, 65536, 1 << 32, math.MaxInt - 1, math.MaxInt}

// wrongSizes are numbers of bytes that no block has.
var wrongSizes = []int{0, 1, 2, 4, 7, 9, 15, 16, 64}

// ramp is what Ramp should answer.
func ramp(a, b int) [8]int {
	if a > b {
		return [8]int{a, b, (6*a + b) / 7, (5*a + 2*b) / 7, (4*a + 3*b) / 7, (3*a + 4*b) / 7, (2*a + 5*b) / 7, (a + 6*b) / 7}
	}
	return [8]int{a, b, (4*a + b) / 5, (3*a + 2*b) / 5, (2*a + 3*b) / 5, (a + 4*b) / 5, 0, most}
}

// bytesOf are the bytes of numbers of so many bits each, one behind the other, the lowest bit of each first.
func bytesOf(l [16]int, width int) []byte {
	out := make([]byte, 2*width)
	for i, n := range l {
		for k := range width {
			if n>>k%2 == 1 {
				out[(i*width+k)/8] += 1 << ((i*width + k) % 8)
			}
		}
	}
	return out
}

// block is what Join should answer.
func block(a, b int, which [16]int) []byte {
	return append([]byte{byte(a), byte(b)}, bytesOf(which, 3)...)
}

// mixed are numbers of all kinds below many, others for each seed.
func mixed(seed, many int) [16]int {
	var l [16]int
	for i := range l {
		l[i] = (seed*7 + i*i + seed*i/3 + i/5) % many
	}
	return l
}

// alike are 16 times the same number.
func alike(n int) [16]int {
	var l [16]int
	for i := range l {
		l[i] = n
	}
	return l
}

// blocks are blocks with all pairs of some ends, of bytes that are all alike, and of single bits.
func blocks() [][]byte {
	l := [][]byte{make([]byte, 8), slices.Repeat([]byte{255}, 8), slices.Repeat([]byte{0x1b}, 8), {1, 2, 3, 4, 5, 6, 7, 8}, {255, 0, 0, 255, 0xe4, 0x1b, 0x39, 0xc6}}
	for i, a := range some {
		for j, b := range some {
			l = append(l, block(a, b, mixed(i*len(some)+j, 8)))
		}
	}
	for i := range 64 {
		b := make([]byte, 8)
		b[i/8] = 1 << (i % 8)
		l = append(l, b)
	}
	return l
}

func TestRamp(t *testing.T) { // P7.1
	for a := range most + 1 {
		for b := range most + 1 {
			if r := bcfour.Ramp(a, b); r != ramp(a, b) {
				t.Fatalf("Ramp(%d, %d) = %v, not %v", a, b, r, ramp(a, b))
			}
		}
	}
}

func TestRampEdges(t *testing.T) { // P7.1: a greater than, equal to and less than b, and ends of 0 and of 255
	for ends, want := range map[[2]int][8]int{
		{70, 0}:    {70, 0, 60, 50, 40, 30, 20, 10},
		{0, 70}:    {0, 70, 14, 28, 42, 56, 0, 255},
		{50, 0}:    {50, 0, 42, 35, 28, 21, 14, 7},
		{0, 50}:    {0, 50, 10, 20, 30, 40, 0, 255},
		{255, 0}:   {255, 0, 218, 182, 145, 109, 72, 36},
		{0, 255}:   {0, 255, 51, 102, 153, 204, 0, 255},
		{0, 0}:     {0, 0, 0, 0, 0, 0, 0, 255},
		{255, 255}: {255, 255, 255, 255, 255, 255, 0, 255},
		{128, 128}: {128, 128, 128, 128, 128, 128, 0, 255},
		{1, 0}:     {1, 0, 0, 0, 0, 0, 0, 0},
		{0, 1}:     {0, 1, 0, 0, 0, 0, 0, 255},
		{255, 254}: {255, 254, 254, 254, 254, 254, 254, 254},
		{254, 255}: {254, 255, 254, 254, 254, 254, 0, 255},
		{13, 9}:    {13, 9, 12, 11, 11, 10, 10, 9},
		{9, 13}:    {9, 13, 9, 10, 11, 12, 0, 255},
	} {
		if r := bcfour.Ramp(ends[0], ends[1]); r != want {
			t.Errorf("Ramp(%d, %d) = %v, not %v", ends[0], ends[1], r, want)
		}
	}
}

func TestRampTurnsNowhere(t *testing.T) { // P7.4
	for a := range most + 1 {
		for b := range most + 1 {
			r := bcfour.Ramp(a, b)
			way := append([]int{r[0]}, r[2:]...)
			if a <= b {
				way = way[:5]
			}
			way = append(way, r[1])
			if a > b {
				slices.Reverse(way)
			}
			if !slices.IsSorted(way) {
				t.Errorf("Ramp(%d, %d) = %v has a turn", a, b, r)
			}
			for _, n := range r {
				if (n < min(a, b) || n > max(a, b)) && n != 0 && n != most {
					t.Errorf("Ramp(%d, %d) = %v: %d is beyond both", a, b, r, n)
				}
				if a > b && (n < b || n > a) {
					t.Errorf("Ramp(%d, %d) = %v: %d is beyond both", a, b, r, n)
				}
			}
		}
	}
}

func TestRampBeyond(t *testing.T) { // P0: numbers that are no ends do not panic
	for _, a := range beyond {
		for _, b := range append([]int{0, 1, most}, beyond...) {
			if r := bcfour.Ramp(a, b); r[0] != a || r[1] != b {
				t.Errorf("Ramp(%d, %d) = %v", a, b, r)
			}
			if r := bcfour.Ramp(b, a); r[0] != b || r[1] != a {
				t.Errorf("Ramp(%d, %d) = %v", b, a, r)
			}
		}
	}
}

func TestJoin(t *testing.T) { // P7.2
	b, e := bcfour.Join(1, 2, [16]int{1, 2, 3, 4, 15: 7})
	if e != api.OK || !slices.Equal(b, []byte{1, 2, 0xd1, 0x08, 0, 0, 0, 0xe0}) {
		t.Error(b, e)
	}
	b, e = bcfour.Join(255, 0, [16]int{0, 1, 2, 3, 4, 5, 6, 7, 7, 6, 5, 4, 3, 2, 1, 0})
	if e != api.OK || !slices.Equal(b, []byte{255, 0, 0x88, 0xc6, 0xfa, 0x77, 0x39, 0x05}) {
		t.Error(b, e)
	}
	for i, a := range some {
		for j, c := range some {
			which := mixed(i*len(some)+j, 8)
			if b, e := bcfour.Join(a, c, which); e != api.OK || !slices.Equal(b, block(a, c, which)) {
				t.Errorf("Join(%d, %d, %v) = %v, %d", a, c, which, b, e)
			}
		}
	}
}

func TestEachIndex(t *testing.T) { // P7.2: each index at each texel
	for _, ends := range [][2]int{{0x12, 0x34}, {0x9a, 0x21}, {77, 77}} {
		want := ramp(ends[0], ends[1])
		for i := range 16 {
			for v := range 8 {
				for rest := range 8 {
					which := alike(rest)
					which[i] = v
					b, e := bcfour.Join(ends[0], ends[1], which)
					if e != api.OK || !slices.Equal(b, block(ends[0], ends[1], which)) {
						t.Errorf("Join of %v: %v, %d", which, b, e)
					}
					x, y, w, e := bcfour.Parts(b)
					if x != ends[0] || y != ends[1] || w != which || e != api.OK {
						t.Errorf("Parts(%v) = %d, %d, %v, %d", b, x, y, w, e)
					}
					l := alike(want[rest])
					l[i] = want[v]
					if u, e := bcfour.Decode(b); e != api.OK || u != l {
						t.Errorf("Decode(%v) = %v, %d, not %v", b, u, e, l)
					}
				}
			}
		}
	}
}

func TestPartsOfJoin(t *testing.T) { // P7.4
	for a := range most + 1 {
		for b := range most + 1 {
			which := mixed(a*256+b, 8)
			l, e := bcfour.Join(a, b, which)
			if e != api.OK {
				t.Fatal(e)
			}
			if x, y, w, e := bcfour.Parts(l); x != a || y != b || w != which || e != api.OK {
				t.Fatalf("Parts of Join(%d, %d, %v): %d, %d, %v, %d", a, b, which, x, y, w, e)
			}
		}
	}
}

func TestJoinOfParts(t *testing.T) { // P7.4
	for _, b := range blocks() {
		x, y, w, e := bcfour.Parts(b)
		if e != api.OK {
			t.Fatal(b, e)
		}
		if c, e := bcfour.Join(x, y, w); e != api.OK || !slices.Equal(c, b) {
			t.Errorf("Join of Parts(%v): %v, %d", b, c, e)
		}
	}
}

func TestDecode(t *testing.T) { // P7.2
	for _, b := range blocks() {
		x, y, w, e := bcfour.Parts(b)
		if e != api.OK {
			t.Fatal(b, e)
		}
		l, e := bcfour.Decode(b)
		if e != api.OK {
			t.Fatal(b, e)
		}
		want := bcfour.Ramp(x, y)
		for i := range l {
			if l[i] != want[w[i]] {
				t.Errorf("Decode(%v): texel %d is %d, not %d", b, i, l[i], want[w[i]])
			}
		}
	}
}

func TestDecodeRows(t *testing.T) { // P7.2: texels go row by row, both halves of a ramp
	rising, _ := bcfour.Decode([]byte{0, 50, 0x88, 0xc6, 0xfa, 0x77, 0x39, 0x05})
	if rising != [16]int{0, 50, 10, 20, 30, 40, 0, 255, 255, 0, 40, 30, 20, 10, 50, 0} {
		t.Error(rising)
	}
	falling, _ := bcfour.Decode([]byte{70, 0, 0x88, 0xc6, 0xfa, 0x77, 0x39, 0x05})
	if falling != [16]int{70, 0, 60, 50, 40, 30, 20, 10, 10, 20, 30, 40, 50, 60, 0, 70} {
		t.Error(falling)
	}
}

func TestAlikeBytes(t *testing.T) { // P7.2, P7.3: blocks of all 0 and of all 255
	zeros, full := make([]byte, 8), slices.Repeat([]byte{255}, 8)
	if x, y, w, e := bcfour.Parts(zeros); x != 0 || y != 0 || w != [16]int{} || e != api.OK {
		t.Error(x, y, w, e)
	}
	if x, y, w, e := bcfour.Parts(full); x != most || y != most || w != alike(7) || e != api.OK {
		t.Error(x, y, w, e)
	}
	for _, c := range []struct {
		b    []byte
		want int
	}{{zeros, 0}, {full, most}} {
		if l, e := bcfour.Decode(c.b); l != alike(c.want) || e != api.OK {
			t.Errorf("Decode(%v) = %v, %d", c.b, l, e)
		}
		if l, e := bcfour.Fours(c.b); l != alike(c.want) || e != api.OK {
			t.Errorf("Fours(%v) = %v, %d", c.b, l, e)
		}
	}
	if b, e := bcfour.Join(0, 0, alike(0)); !slices.Equal(b, zeros) || e != api.OK {
		t.Error(b, e)
	}
	if b, e := bcfour.Join(most, most, alike(7)); !slices.Equal(b, full) || e != api.OK {
		t.Error(b, e)
	}
	if b, e := bcfour.JoinFours(alike(0)); !slices.Equal(b, zeros) || e != api.OK {
		t.Error(b, e)
	}
	if b, e := bcfour.JoinFours(alike(15)); !slices.Equal(b, full) || e != api.OK {
		t.Error(b, e)
	}
}

func TestFours(t *testing.T) { // P7.3
	l, e := bcfour.Fours([]byte{0x10, 0x32, 0x54, 0x76, 0x98, 0xba, 0xdc, 0xfe})
	if l != [16]int{0, 17, 34, 51, 68, 85, 102, 119, 136, 153, 170, 187, 204, 221, 238, 255} || e != api.OK {
		t.Error(l, e)
	}
	b, e := bcfour.JoinFours([16]int{0, 1, 2, 3, 4, 5, 6, 7, 8, 9, 10, 11, 12, 13, 14, 15})
	if !slices.Equal(b, []byte{0x10, 0x32, 0x54, 0x76, 0x98, 0xba, 0xdc, 0xfe}) || e != api.OK {
		t.Error(b, e)
	}
}

func TestEachFour(t *testing.T) { // P7.3, P7.4: each four-bit number at each texel
	for i := range 16 {
		for v := range 16 {
			for rest := range 16 {
				l := alike(rest)
				l[i] = v
				b, e := bcfour.JoinFours(l)
				if e != api.OK || !slices.Equal(b, bytesOf(l, 4)) {
					t.Errorf("JoinFours(%v) = %v, %d", l, b, e)
				}
				wide := alike(rest * 17)
				wide[i] = v * 17
				if got, e := bcfour.Fours(b); e != api.OK || got != wide {
					t.Errorf("Fours(%v) = %v, %d, not %v", b, got, e, wide)
				}
			}
		}
	}
}

func TestFoursOfJoinFours(t *testing.T) { // P7.4
	for seed := range 5000 {
		l := mixed(seed, 16)
		b, e := bcfour.JoinFours(l)
		if e != api.OK {
			t.Fatal(e)
		}
		got, e := bcfour.Fours(b)
		if e != api.OK {
			t.Fatal(e)
		}
		for i, n := range got {
			if n != level.Wide(l[i], 4) {
				t.Fatalf("Fours of JoinFours(%v): %v", l, got)
			}
		}
	}
}

func TestJoinFoursOfFours(t *testing.T) { // P7.4
	for _, b := range blocks() {
		l, e := bcfour.Fours(b)
		if e != api.OK {
			t.Fatal(b, e)
		}
		for i, n := range l {
			l[i] = level.Near(n, 4)
			if level.Wide(l[i], 4) != n {
				t.Errorf("Fours(%v): %d is the Wide of nothing", b, n)
			}
		}
		if c, e := bcfour.JoinFours(l); e != api.OK || !slices.Equal(c, b) {
			t.Errorf("JoinFours of Fours(%v): %v, %d", b, c, e)
		}
	}
}

func TestWrongSizes(t *testing.T) { // P7.2, P7.3, R1, R2
	l := [][]byte{nil}
	for _, size := range wrongSizes {
		l = append(l, make([]byte, size), slices.Repeat([]byte{255}, size), make([]byte, size, size+8))
	}
	for _, b := range l {
		if x, y, w, e := bcfour.Parts(b); x != 0 || y != 0 || w != [16]int{} || e != api.ErrArg {
			t.Errorf("Parts of %d bytes: %d, %d, %v, %d", len(b), x, y, w, e)
		}
		if u, e := bcfour.Decode(b); u != [16]int{} || e != api.ErrArg {
			t.Errorf("Decode of %d bytes: %v, %d", len(b), u, e)
		}
		if u, e := bcfour.Fours(b); u != [16]int{} || e != api.ErrArg {
			t.Errorf("Fours of %d bytes: %v, %d", len(b), u, e)
		}
	}
}

func TestWrongEnds(t *testing.T) { // P7.2, R1
	for _, n := range beyond {
		for _, c := range [][2]int{{n, 0}, {0, n}, {n, most}, {most, n}, {n, n}} {
			for _, which := range [][16]int{{}, mixed(3, 8), {0: -1}, {15: 8}} {
				if b, e := bcfour.Join(c[0], c[1], which); len(b) != 0 || e != api.ErrArg {
					t.Errorf("Join(%d, %d, %v) = %v, %d", c[0], c[1], which, b, e)
				}
			}
		}
	}
}

func TestWrongIndices(t *testing.T) { // P7.2, R1
	for i := range 16 {
		for _, v := range append([]int{-8, -7, 8, 9, 15, 16, most}, beyond...) {
			which := mixed(i, 8)
			which[i] = v
			if b, e := bcfour.Join(0x12, 0x34, which); len(b) != 0 || e != api.ErrArg {
				t.Errorf("Join with index %d at texel %d: %v, %d", v, i, b, e)
			}
		}
	}
}

func TestWrongFours(t *testing.T) { // P7.3, R1
	for i := range 16 {
		for _, v := range append([]int{-16, -15, 16, 17, 31, 32, most}, beyond...) {
			l := mixed(i, 16)
			l[i] = v
			if b, e := bcfour.JoinFours(l); len(b) != 0 || e != api.ErrArg {
				t.Errorf("JoinFours with %d at texel %d: %v, %d", v, i, b, e)
			}
		}
	}
}

func TestNothingShared(t *testing.T) { // R3
	for _, b := range blocks() {
		kept := slices.Clone(b)
		x, y, w, _ := bcfour.Parts(b)
		bcfour.Decode(b)
		fours, _ := bcfour.Fours(b)
		if !slices.Equal(b, kept) {
			t.Errorf("%v has become %v", kept, b)
		}
		first, _ := bcfour.Join(x, y, w)
		second, _ := bcfour.Join(x, y, w)
		clear(first)
		if !slices.Equal(second, kept) {
			t.Errorf("Join's answers share memory: %v has become %v", kept, second)
		}
		for i := range fours {
			fours[i] /= 17
		}
		first, _ = bcfour.JoinFours(fours)
		second, _ = bcfour.JoinFours(fours)
		clear(first)
		if !slices.Equal(second, kept) {
			t.Errorf("JoinFours's answers share memory: %v has become %v", kept, second)
		}
	}
	long := slices.Repeat([]byte{0xe4}, 24)
	bcfour.Parts(long[8:16])
	bcfour.Decode(long[8:16])
	bcfour.Fours(long[8:16])
	if !slices.Equal(long, slices.Repeat([]byte{0xe4}, 24)) {
		t.Error("bytes around the block have changed")
	}
}

func TestManyAtOnce(t *testing.T) { // R4, R5
	shared := blocks()
	var all sync.WaitGroup
	for k := range 8 {
		all.Go(func() {
			for i, b := range shared {
				x, y, w, e := bcfour.Parts(b)
				c, f := bcfour.Join(x, y, w)
				u, g := bcfour.Decode(b)
				l, h := bcfour.Fours(b)
				if e != api.OK || f != api.OK || g != api.OK || h != api.OK || !slices.Equal(c, b) {
					t.Errorf("block %d: %v, %d, %d, %d, %d", i, c, e, f, g, h)
				}
				if u[k] != ramp(x, y)[w[k]] || l[k] != int(b[k/2])>>(k%2*4)%16*17 {
					t.Errorf("block %d: texel %d is %d, %d", i, k, u[k], l[k])
				}
			}
		})
	}
	all.Wait()
}
