package eac_test

import (
	"encoding/hex"
	"math"
	"slices"
	"sync"
	"testing"

	"swatch/api"
	"swatch/eac"
)

// far are numbers at the ends of the range of int, and numbers of which some low bits are those of small ones.
var far = []int{math.MinInt, math.MinInt + 1, -1 << 62, -1 << 48, -1 << 32, -1<<32 + 1, -1 << 31, -1 << 16, -257, -256, -255, -128, -33, 257, 511, 512, 1 << 16, 1 << 31, 1 << 32, 1<<32 + 1, 1 << 48, 1 << 62, math.MaxInt - 1, math.MaxInt}

// wrongSizes are numbers of bytes that no block has.
var wrongSizes = []int{0, 1, 2, 3, 4, 5, 6, 7, 9, 10, 15, 16, 17, 24, 64}

// tables are those of the chapter, written out.
var tables = [16][8]int{
	0:  {-3, -6, -9, -15, 2, 5, 8, 14},
	1:  {-3, -7, -10, -13, 2, 6, 9, 12},
	2:  {-2, -5, -8, -13, 1, 4, 7, 12},
	3:  {-2, -4, -6, -13, 1, 3, 5, 12},
	4:  {-3, -6, -8, -12, 2, 5, 7, 11},
	5:  {-3, -7, -9, -11, 2, 6, 8, 10},
	6:  {-4, -7, -8, -11, 3, 6, 7, 10},
	7:  {-3, -5, -8, -11, 2, 4, 7, 10},
	8:  {-2, -6, -8, -10, 1, 5, 7, 9},
	9:  {-2, -5, -8, -10, 1, 4, 7, 9},
	10: {-2, -4, -8, -10, 1, 3, 7, 9},
	11: {-2, -5, -7, -10, 1, 4, 6, 9},
	12: {-3, -4, -7, -10, 2, 3, 6, 9},
	13: {-1, -2, -3, -10, 0, 1, 2, 9},
	14: {-4, -6, -8, -9, 3, 5, 7, 8},
	15: {-3, -5, -7, -9, 2, 4, 6, 8},
}

// block are the parts of one.
type block struct {
	base, times, table int
	which              [16]int
}

// build is the block of such parts: bit after bit, the highest of each byte first.
func build(x block) []byte {
	var l []int
	put := func(width, n int) {
		for k := width - 1; k >= 0; k-- {
			l = append(l, n>>k&1)
		}
	}
	put(8, x.base)
	put(4, x.times)
	put(4, x.table)
	for col := range 4 {
		for row := range 4 {
			put(3, x.which[4*row+col])
		}
	}
	b := make([]byte, 8)
	for i, bit := range l {
		b[i/8] |= byte(bit << (7 - i%8))
	}
	return b
}

// valueOf is what a number of a table makes of a base.
func valueOf(base, times, number int, wide bool) int {
	n, most := base+number*times, 255
	if wide && times == 0 {
		n, most = 8*base+4+number, 2047
	} else if wide {
		n, most = 8*base+4+8*number*times, 2047
	}
	return min(most, max(0, n))
}

// numbersOf are the numbers of a block.
func numbersOf(x block, wide bool) [16]int {
	var out [16]int
	for i, index := range x.which {
		out[i] = valueOf(x.base, x.times, tables[x.table][index], wide)
	}
	return out
}

// mixed is a block that looks without order but is the same each time.
func mixed(seed int) block {
	state := uint32(seed)*2654435761 + 12345
	next := func(many int) int {
		state = state*1664525 + 1013904223
		return int(state>>8) % many
	}
	x := block{base: next(256), times: next(16), table: next(16)}
	for i := range x.which {
		x.which[i] = next(8)
	}
	return x
}

// blocks are some, those with multiplier 0 among them.
func blocks() []block {
	var l []block
	for seed := range 200 {
		x := mixed(seed)
		l = append(l, x)
		x.times = 0
		l = append(l, x)
	}
	return l
}

// alike are 16 times the same number.
func alike(n int) [16]int {
	return [16]int(slices.Repeat([]int{n}, 16))
}

// join is Join of parts that are together.
func join(x block) ([]byte, api.Errno) {
	return eac.Join(x.base, x.times, x.table, x.which)
}

// parts are those of Parts, together.
func parts(b []byte) (block, api.Errno) {
	base, times, table, which, e := eac.Parts(b)
	return block{base, times, table, which}, e
}

// bytesOf are the bytes that a text tells.
func bytesOf(t *testing.T, s string) []byte {
	t.Helper()
	b, err := hex.DecodeString(s)
	if err != nil {
		t.Fatal(err)
	}
	return b
}

// check holds all of a block's calls against what the chapter asks of it.
func check(t *testing.T, x block) {
	t.Helper()
	want := build(x)
	if b, e := join(x); e != api.OK || !slices.Equal(b, want) {
		t.Errorf("Join of %v = %x, %d, not %x", x, b, e, want)
	}
	if y, e := parts(want); e != api.OK || y != x {
		t.Errorf("Parts(%x) = %v, %d, not %v", want, y, e, x)
	}
	for _, wide := range []bool{false, true} {
		if l, e := eac.Decode(want, wide); e != api.OK || l != numbersOf(x, wide) {
			t.Errorf("Decode(%x, %t) = %v, %d, not %v", want, wide, l, e, numbersOf(x, wide))
		}
	}
}

func TestTable(t *testing.T) { // P12.1
	for n := -64; n < 64; n++ {
		if l := eac.Table(n); l != tables[(n+64)%16] {
			t.Errorf("Table(%d) = %v", n, l)
		}
	}
	for _, n := range far {
		if l := eac.Table(n); l != tables[(n%16+16)%16] {
			t.Errorf("Table(%d) = %v", n, l)
		}
	}
	l := eac.Table(3)
	l[0] = 99
	if eac.Table(3) != tables[3] {
		t.Error("a caller's table is not the caller's own")
	}
}

func TestPartsExamples(t *testing.T) { // P12.1: blocks written out
	for _, c := range []struct {
		block string
		want  block
	}{
		{"0000000000000000", block{}},
		{"ffffffffffffffff", block{255, 15, 15, alike(7)}},
		{"1234e40000000005", block{0x12, 3, 4, [16]int{0: 7, 4: 1, 15: 5}}},
		{"8000000000000000", block{base: 128}},
		{"0100000000000000", block{base: 1}},
		{"0080000000000000", block{times: 8}},
		{"0010000000000000", block{times: 1}},
		{"0008000000000000", block{table: 8}},
		{"0001000000000000", block{table: 1}},
		{"0000800000000000", block{which: [16]int{0: 4}}},
		{"0000200000000000", block{which: [16]int{0: 1}}},
		{"00001c0000000000", block{which: [16]int{4: 7}}},
		{"0000038000000000", block{which: [16]int{8: 7}}},
		{"0000007000000000", block{which: [16]int{12: 7}}},
		{"0000000e00000000", block{which: [16]int{1: 7}}},
		{"00000001c0000000", block{which: [16]int{5: 7}}},
		{"0000000000e00000", block{which: [16]int{2: 7}}},
		{"0000000000000e00", block{which: [16]int{3: 7}}},
		{"0000000000000007", block{which: [16]int{15: 7}}},
		{"0000000000000038", block{which: [16]int{11: 7}}},
		{"0000053977053977", block{which: [16]int{0, 4, 0, 4, 1, 5, 1, 5, 2, 6, 2, 6, 3, 7, 3, 7}}},
	} {
		b := bytesOf(t, c.block)
		if x, e := parts(b); e != api.OK || x != c.want {
			t.Errorf("Parts(%s) = %v, %d, not %v", c.block, x, e, c.want)
		}
		if l, e := join(c.want); e != api.OK || hex.EncodeToString(l) != c.block {
			t.Errorf("Join of %v = %x, %d, not %s", c.want, l, e, c.block)
		}
	}
}

func TestEachBit(t *testing.T) { // P12.1, P12.3: each bit alone, and all but it, and two of them
	for i := range 64 {
		for k := range 64 {
			for _, rest := range []byte{0, 255} {
				b := slices.Repeat([]byte{rest}, 8)
				b[i/8] ^= 1 << (i % 8)
				if k != i {
					b[k/8] ^= 1 << (k % 8)
				}
				x, e := parts(b)
				if want := build(x); e != api.OK || !slices.Equal(want, b) {
					t.Errorf("Parts(%x) = %v, %d", b, x, e)
				}
				if c, e := join(x); e != api.OK || !slices.Equal(c, b) {
					t.Errorf("Join of the parts of %x: %x, %d", b, c, e)
				}
			}
		}
	}
}

func TestManyBlocks(t *testing.T) { // P12.1 to P12.3
	for seed := range 20000 {
		check(t, mixed(seed))
	}
}

func TestEachHead(t *testing.T) { // P12.1 to P12.3: each base with each multiplier and each table
	for base := range 256 {
		for times := range 16 {
			for table := range 16 {
				x := mixed(base)
				x.base, x.times, x.table = base, times, table
				x.which = [16]int{0, 1, 2, 3, 4, 5, 6, 7, 7, 6, 5, 4, 3, 2, 1, 0}
				check(t, x)
			}
		}
	}
}

func TestEachIndex(t *testing.T) { // P12.1, P12.2: each index at each texel, among others
	for i := range 16 {
		for v := range 8 {
			for other := range 8 {
				x := mixed(8*i + v)
				x.which = alike(other)
				x.which[i] = v
				check(t, x)
			}
		}
	}
}

func TestValueExamples(t *testing.T) { // P12.2: the chapter's examples, and numbers about the ends
	for _, c := range []struct{ base, times, number, want, wide int }{
		{10, 2, -3, 4, 36},
		{0, 0, 0, 0, 4},
		{0, 0, -3, 0, 1},
		{0, 0, -4, 0, 0},
		{0, 0, -5, 0, 0},
		{0, 0, -15, 0, 0},
		{1, 0, -15, 1, 0},
		{2, 0, -15, 2, 5},
		{0, 1, -1, 0, 0},
		{0, 1, 0, 0, 4},
		{0, 1, 1, 1, 12},
		{1, 1, -1, 0, 4},
		{6, 3, -2, 0, 4},
		{5, 3, -2, 0, 0},
		{255, 0, 0, 255, 2044},
		{255, 0, 3, 255, 2047},
		{255, 0, 4, 255, 2047},
		{255, 0, 14, 255, 2047},
		{254, 0, 14, 254, 2047},
		{253, 0, 14, 253, 2042},
		{254, 1, 1, 255, 2044},
		{255, 1, 1, 255, 2047},
		{255, 15, -15, 30, 244},
		{30, 15, -2, 0, 4},
		{225, 15, 2, 255, 2044},
		{226, 15, 2, 255, 2047},
		{128, 7, -9, 65, 524},
		{0, 15, 14, 210, 1684},
		{255, 15, 14, 255, 2047},
		{0, 15, -15, 0, 0},
	} {
		if n := eac.Value(c.base, c.times, c.number, false); n != c.want {
			t.Errorf("Value(%d, %d, %d, false) = %d, not %d", c.base, c.times, c.number, n, c.want)
		}
		if n := eac.Value(c.base, c.times, c.number, true); n != c.wide {
			t.Errorf("Value(%d, %d, %d, true) = %d, not %d", c.base, c.times, c.number, n, c.wide)
		}
	}
}

func TestEachValue(t *testing.T) { // P12.2: bases, multipliers and numbers of blocks, and others beyond them
	for base := -40; base < 300; base++ {
		for times := -3; times < 20; times++ {
			for number := -20; number < 20; number++ {
				for _, wide := range []bool{false, true} {
					if n := eac.Value(base, times, number, wide); n != valueOf(base, times, number, wide) {
						t.Errorf("Value(%d, %d, %d, %t) = %d", base, times, number, wide, n)
					}
				}
			}
		}
	}
	for _, base := range []int{-1 << 19, -100000, 0, 255, 100000, 1 << 19} {
		for _, times := range []int{-300, -15, 0, 1, 15, 300} {
			for _, number := range []int{-300, -15, 0, 14, 300} {
				if n := eac.Value(base, times, number, false); n != valueOf(base, times, number, false) {
					t.Errorf("Value(%d, %d, %d, false) = %d", base, times, number, n)
				}
				if n := eac.Value(base/8, times, number, true); n != valueOf(base/8, times, number, true) {
					t.Errorf("Value(%d, %d, %d, true) = %d", base/8, times, number, n)
				}
			}
		}
	}
}

func TestZeros(t *testing.T) { // P12.2: base 0 and multiplier 0; the first number of the first table is -3
	b := make([]byte, 8)
	if l, e := eac.Decode(b, false); e != api.OK || l != alike(0) {
		t.Errorf("%v, %d", l, e)
	}
	if l, e := eac.Decode(b, true); e != api.OK || l != alike(1) {
		t.Errorf("wide: %v, %d", l, e)
	}
}

func TestDecodeBlocks(t *testing.T) { // P12.2: blocks and their numbers, of 8 bits and of 11, written out; of every fifth one the multiplier is 0
	for _, c := range []struct {
		block        string
		narrow, wide [16]int
	}{
		{"f30f4d451e429e18", [16]int{243, 243, 243, 243, 243, 243, 243, 243, 243, 243, 243, 243, 243, 243, 243, 243}, [16]int{1941, 1941, 1941, 1956, 1939, 1950, 1945, 1945, 1941, 1939, 1952, 1939, 1950, 1954, 1943, 1945}},
		{"2215aaee06a2d64b", [16]int{40, 44, 40, 23, 25, 31, 31, 27, 40, 31, 40, 27, 42, 42, 40, 23}, [16]int{324, 356, 324, 188, 204, 252, 252, 220, 324, 252, 324, 220, 340, 340, 324, 188}},
		{"6d1aadc9e5031e4b", [16]int{112, 110, 107, 118, 99, 118, 107, 105, 99, 110, 116, 105, 110, 112, 105, 99}, [16]int{900, 884, 860, 948, 796, 948, 860, 844, 796, 884, 932, 844, 884, 900, 844, 796}},
		{"99bf11ae0a796ebc", [16]int{120, 241, 54, 241, 175, 120, 219, 76, 54, 98, 76, 241, 76, 76, 219, 175}, [16]int{964, 1932, 436, 1932, 1404, 964, 1756, 612, 436, 788, 612, 1932, 612, 612, 1756, 1404}},
		{"44c85fd174bfccf4", [16]int{0, 44, 128, 152, 176, 128, 176, 0, 176, 152, 176, 152, 128, 80, 80, 80}, [16]int{0, 356, 1028, 1220, 1412, 1028, 1412, 0, 1412, 1220, 1412, 1220, 1028, 644, 644, 644}},
		{"3c05f561cd0040e8", [16]int{60, 60, 60, 60, 60, 60, 60, 60, 60, 60, 60, 60, 60, 60, 60, 60}, [16]int{494, 481, 481, 481, 490, 494, 481, 473, 475, 477, 481, 490, 492, 490, 486, 481}},
		{"566209385c6601dd", [16]int{74, 92, 8, 74, 38, 56, 56, 158, 38, 8, 92, 8, 8, 92, 74, 110}, [16]int{596, 740, 68, 596, 308, 452, 452, 1268, 308, 68, 740, 68, 68, 740, 596, 884}},
		{"b3fc1472b881d99c", [16]int{134, 119, 209, 209, 224, 74, 134, 255, 134, 255, 29, 29, 255, 134, 224, 209}, [16]int{1076, 956, 1676, 1676, 1796, 596, 1076, 2047, 1076, 2047, 236, 236, 2047, 1076, 1796, 1676}},
		{"8428183c3fae7166", [16]int{128, 146, 142, 128, 146, 128, 112, 142, 128, 150, 134, 134, 112, 150, 150, 146}, [16]int{1028, 1172, 1140, 1028, 1172, 1028, 900, 1140, 1028, 1204, 1076, 1076, 900, 1204, 1204, 1172}},
		{"ecbd7cc3ba26c55e", [16]int{126, 214, 214, 203, 255, 255, 214, 247, 214, 255, 247, 126, 236, 203, 236, 255}, [16]int{1012, 1716, 1716, 1628, 2047, 2047, 1716, 1980, 1716, 2047, 1980, 1012, 1892, 1628, 1892, 2047}},
		{"2f0169c92f2f4691", [16]int{47, 47, 47, 47, 47, 47, 47, 47, 47, 47, 47, 47, 47, 47, 47, 47}, [16]int{367, 382, 373, 367, 370, 382, 367, 370, 367, 386, 389, 370, 382, 392, 382, 373}},
		{"fae28d00f74ecaf2", [16]int{255, 222, 138, 255, 68, 68, 68, 68, 138, 255, 255, 255, 222, 255, 255, 138}, [16]int{2047, 1780, 1108, 2047, 548, 548, 548, 548, 1108, 2047, 2047, 2047, 1780, 2047, 2047, 1108}},
		{"4ca41c0d577477c4", [16]int{46, 146, 0, 0, 186, 126, 126, 186, 46, 0, 46, 46, 46, 186, 186, 96}, [16]int{372, 1172, 0, 0, 1492, 1012, 1012, 1492, 372, 0, 372, 372, 372, 1492, 1492, 772}},
		{"b2615a7b07d8dd0a", [16]int{118, 214, 232, 232, 232, 190, 232, 190, 190, 160, 136, 136, 250, 250, 214, 118}, [16]int{948, 1716, 1860, 1860, 1860, 1524, 1860, 1524, 1524, 1284, 1092, 1092, 2004, 2004, 1716, 948}},
		{"bb8f6026f0560c8b", [16]int{115, 115, 131, 235, 163, 115, 219, 131, 163, 235, 203, 147, 131, 163, 163, 115}, [16]int{924, 924, 1052, 1884, 1308, 924, 1756, 1052, 1308, 1884, 1628, 1180, 1052, 1308, 1308, 924}},
		{"e705092e6fd13226", [16]int{231, 231, 231, 231, 231, 231, 231, 231, 231, 231, 231, 231, 231, 231, 231, 231}, [16]int{1849, 1862, 1860, 1845, 1843, 1845, 1854, 1849, 1843, 1858, 1843, 1854, 1843, 1862, 1841, 1860}},
		{"68df4d6b15c52422", [16]int{13, 156, 182, 13, 0, 130, 39, 65, 13, 13, 13, 130, 182, 156, 13, 13}, [16]int{108, 1252, 1460, 108, 0, 1044, 316, 524, 108, 108, 108, 1044, 1460, 1252, 108, 108}},
		{"554e2ca75f2c3053", [16]int{61, 49, 61, 69, 49, 105, 49, 61, 61, 49, 69, 53, 53, 117, 49, 49}, [16]int{492, 396, 492, 556, 396, 844, 396, 492, 492, 396, 556, 428, 428, 940, 396, 396}},
		{"1c00dd92d4e7d5b2", [16]int{28, 28, 28, 28, 28, 28, 28, 28, 28, 28, 28, 28, 28, 28, 28, 28}, [16]int{236, 222, 242, 219, 242, 213, 222, 236, 213, 219, 242, 236, 222, 230, 233, 219}},
		{"c494d150ad051371", [16]int{255, 169, 169, 142, 214, 124, 142, 241, 124, 241, 124, 255, 241, 241, 142, 142}, [16]int{2047, 1356, 1356, 1140, 1716, 996, 1140, 1932, 996, 1932, 996, 2047, 1932, 1932, 1140, 1140}},
	} {
		b := bytesOf(t, c.block)
		if l, e := eac.Decode(b, false); e != api.OK || l != c.narrow {
			t.Errorf("Decode(%s, false) = %v, %d, not %v", c.block, l, e, c.narrow)
		}
		if l, e := eac.Decode(b, true); e != api.OK || l != c.wide {
			t.Errorf("Decode(%s, true) = %v, %d, not %v", c.block, l, e, c.wide)
		}
	}
}

func TestGreaterBase(t *testing.T) { // P12.3: with a greater base no number is less
	for _, wide := range []bool{false, true} {
		for times := range 16 {
			for table := range 16 {
				for _, number := range eac.Table(table) {
					for base := 1; base < 256; base++ {
						less, more := eac.Value(base-1, times, number, wide), eac.Value(base, times, number, wide)
						if less > more {
							t.Errorf("base %d, multiplier %d, number %d, %t: %d after %d", base, times, number, wide, more, less)
						}
					}
				}
			}
		}
	}
	for seed := range 2000 {
		x := mixed(seed)
		for _, wide := range []bool{false, true} {
			x.base = seed % 255
			less, _ := eac.Decode(build(x), wide)
			x.base++
			more, _ := eac.Decode(build(x), wide)
			for i := range 16 {
				if less[i] > more[i] {
					t.Errorf("%v, %t: texel %d has %d, with a base less by 1 %d", x, wide, i, more[i], less[i])
				}
			}
		}
	}
}

func TestMultiplierZero(t *testing.T) { // P12.3: all numbers are the base
	for base := range 256 {
		for table := range 16 {
			x := mixed(16*base + table)
			x.base, x.times, x.table = base, 0, table
			if l, e := eac.Decode(build(x), false); e != api.OK || l != alike(base) {
				t.Errorf("%v: %v, %d", x, l, e)
			}
		}
	}
}

func TestWrongSizes(t *testing.T) { // P12.1, P12.2, R1, R2
	l := [][]byte{nil}
	for _, size := range wrongSizes {
		l = append(l, make([]byte, size), slices.Repeat([]byte{255}, size), make([]byte, size, size+8))
	}
	for _, b := range l {
		if x, e := parts(b); x != (block{}) || e != api.ErrArg {
			t.Errorf("Parts of %d bytes: %v, %d", len(b), x, e)
		}
		for _, wide := range []bool{false, true} {
			if u, e := eac.Decode(b, wide); u != [16]int{} || e != api.ErrArg {
				t.Errorf("Decode of %d bytes, %t: %v, %d", len(b), wide, u, e)
			}
		}
	}
}

// wrong tells of a block that Join has taken though it may not be.
func wrong(t *testing.T, x block) {
	t.Helper()
	if b, e := join(x); len(b) != 0 || e != api.ErrArg {
		t.Errorf("Join of %v = %x, %d", x, b, e)
	}
}

func TestWrongParts(t *testing.T) { // P12.1, R1
	for seed := range 5 {
		for _, n := range append([]int{-2, -1, 256, 257}, far...) {
			x := mixed(seed)
			x.base = n
			wrong(t, x)
		}
		for _, n := range append([]int{-16, -2, -1, 16, 17, 31, 32, 255, 256}, far...) {
			x, y := mixed(seed), mixed(seed)
			x.times, y.table = n, n
			wrong(t, x)
			wrong(t, y)
		}
	}
	for i := range 16 {
		for _, n := range append([]int{-8, -2, -1, 8, 9, 15, 16, 64}, far...) {
			x := mixed(i)
			x.which[i] = n
			wrong(t, x)
		}
	}
	for _, n := range far {
		wrong(t, block{n, n, n, alike(n)})
	}
}

func TestNothingPanics(t *testing.T) { // P0: of such numbers level.Clamp promises nothing, but they must not stop the program
	for _, base := range far {
		for _, times := range far {
			for _, number := range far {
				for _, wide := range []bool{false, true} {
					if n := eac.Value(base, times, number, wide); n < 0 || n > 2047 || !wide && n > 255 {
						t.Errorf("Value(%d, %d, %d, %t) = %d", base, times, number, wide, n)
					}
				}
			}
		}
	}
}

func TestNothingShared(t *testing.T) { // R3
	for _, x := range blocks() {
		long := slices.Repeat(build(x), 3)
		kept, b := slices.Clone(long), long[8:16]
		y, _ := parts(b)
		l, _ := eac.Decode(b, true)
		if !slices.Equal(long, kept) {
			t.Errorf("%x has become %x", kept, long)
		}
		clear(b)
		if y != x || l != numbersOf(x, true) {
			t.Errorf("%v has become %v, %v", x, y, l)
		}
		first, _ := join(x)
		second, _ := join(x)
		clear(first)
		if !slices.Equal(second, kept[8:16]) {
			t.Errorf("Join's answers share memory: %x has become %x", kept[8:16], second)
		}
	}
}

func TestManyAtOnce(t *testing.T) { // R4, R5
	shared := blocks()
	var bytes [][]byte
	for _, x := range shared {
		bytes = append(bytes, build(x))
	}
	var all sync.WaitGroup
	for range 8 {
		all.Go(func() {
			for i, x := range shared {
				y, e := parts(bytes[i])
				b, f := join(x)
				l, g := eac.Decode(bytes[i], false)
				m, h := eac.Decode(bytes[i], true)
				if e != api.OK || f != api.OK || g != api.OK || h != api.OK || y != x || !slices.Equal(b, bytes[i]) || l != numbersOf(x, false) || m != numbersOf(x, true) {
					t.Errorf("block %d: %v, %x, %v, %v, %d, %d, %d, %d", i, y, b, l, m, e, f, g, h)
				}
			}
		})
	}
	all.Wait()
}
