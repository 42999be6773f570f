package etcone_test

import (
	"encoding/hex"
	"math"
	"slices"
	"sync"
	"testing"

	"swatch/api"
	"swatch/etcone"
)

// far are numbers at the ends of the range of int, and numbers of which some low bits are those of small ones.
var far = []int{math.MinInt, math.MinInt + 1, -1 << 62, -1 << 32, -1<<32 + 1, -1 << 31, -1 << 16, -256, -255, -128, -33, -32, -31, -17, -16, -9, -8, 33, 64, 127, 128, 255, 256, 1 << 16, 1 << 31, 1 << 32, 1<<32 + 1, 1 << 62, math.MaxInt - 1, math.MaxInt}

// wrongSizes are numbers of bytes that no block has.
var wrongSizes = []int{0, 1, 2, 3, 4, 6, 7, 9, 10, 15, 16, 17, 24, 64}

// tables are those of the chapter, written out.
var tables = [8][4]int{
	{2, 8, -2, -8},
	{5, 17, -5, -17},
	{9, 29, -9, -29},
	{13, 42, -13, -42},
	{18, 60, -18, -60},
	{24, 80, -24, -80},
	{33, 106, -33, -106},
	{47, 183, -47, -183},
}

// build is the block of such parts: bit after bit, the highest of each byte first.
func build(x etcone.Block) []byte {
	var l [64]int
	put := func(at, width, n int) {
		for k := range width {
			l[at+k] = n >> (width - 1 - k) & 1
		}
	}
	for c := range 3 {
		if x.Diff {
			put(8*c, 5, x.A[c])
			put(8*c+5, 3, x.B[c])
		} else {
			put(8*c, 4, x.A[c])
			put(8*c+4, 4, x.B[c])
		}
	}
	put(24, 3, x.Tables[0])
	put(27, 3, x.Tables[1])
	if x.Diff {
		l[30] = 1
	}
	if x.Flip {
		l[31] = 1
	}
	for col := range 4 {
		for row := range 4 {
			index := x.Which[4*row+col]
			l[47-(4*col+row)] = index / 2
			l[63-(4*col+row)] = index % 2
		}
	}
	b := make([]byte, 8)
	for i, bit := range l {
		b[i/8] |= byte(bit << (7 - i%8))
	}
	return b
}

// basesOf are the two colours of a block that may be, and the first channel that goes too far.
func basesOf(x etcone.Block) ([2]api.Texel, int) {
	out, far := [2]api.Texel{{3: 255}, {3: 255}}, 3
	for c := 2; c >= 0; c-- {
		if !x.Diff {
			out[0][c], out[1][c] = 17*x.A[c], 17*x.B[c]
			continue
		}
		n := x.A[c] + x.B[c]
		if n < 0 || n > 31 {
			far = c
		}
		n = (n + 32) % 32
		out[0][c], out[1][c] = 8*x.A[c]+x.A[c]/4, 8*n+n/4
	}
	return out, far
}

// tileOf are the texels of a block that may be.
func tileOf(x etcone.Block) api.Tile {
	bases, _ := basesOf(x)
	var out api.Tile
	for row := range 4 {
		for col := range 4 {
			half := 0
			if x.Flip && row >= 2 || !x.Flip && col >= 2 {
				half = 1
			}
			i := 4*row + col
			out[i] = bases[half]
			for c := range 3 {
				out[i][c] = min(255, max(0, out[i][c]+tables[x.Tables[half]][x.Which[i]]))
			}
		}
	}
	return out
}

// mixed is a block that looks without order but is the same each time.
func mixed(seed int, diff, flip bool) etcone.Block {
	state := uint32(seed)*2654435761 + 12345
	next := func(many int) int {
		state = state*1664525 + 1013904223
		return int(state>>8) % many
	}
	x := etcone.Block{Diff: diff, Flip: flip}
	for c := range 3 {
		if diff {
			x.A[c], x.B[c] = next(32), next(8)-4
		} else {
			x.A[c], x.B[c] = next(16), next(16)
		}
	}
	x.Tables = [2]int{next(8), next(8)}
	for i := range x.Which {
		x.Which[i] = next(4)
	}
	return x
}

// kinds are the four kinds of blocks: with Diff and Flip, and without.
var kinds = [][2]bool{{false, false}, {false, true}, {true, false}, {true, true}}

// blocks are some of each kind, with and without differences that go too far.
func blocks() []etcone.Block {
	var l []etcone.Block
	for seed := range 60 {
		for _, k := range kinds {
			l = append(l, mixed(seed, k[0], k[1]))
		}
	}
	return l
}

// alike are 16 times the same number.
func alike(n int) [16]int {
	return [16]int(slices.Repeat([]int{n}, 16))
}

// check holds all of a block's calls against what the chapter asks of it.
func check(t *testing.T, x etcone.Block) {
	t.Helper()
	want := build(x)
	b, e := etcone.Join(x)
	if e != api.OK || !slices.Equal(b, want) {
		t.Errorf("Join(%+v) = %x, %d, not %x", x, b, e, want)
	}
	if y, e := etcone.Parts(want); e != api.OK || y != x {
		t.Errorf("Parts(%x) = %+v, %d, not %+v", want, y, e, x)
	}
	bases, far := etcone.Bases(x)
	if l, c := basesOf(x); bases != l || far != c {
		t.Errorf("Bases(%+v) = %v, %d, not %v, %d", x, bases, far, l, c)
	}
	tile := tileOf(x)
	if u := etcone.Paint(x); u != tile {
		t.Errorf("Paint(%+v) = %v, not %v", x, u, tile)
	}
	if u, e := etcone.Decode(want); e != api.OK || u != tile {
		t.Errorf("Decode(%x) = %v, %d, not %v", want, u, e, tile)
	}
}

func TestTable(t *testing.T) { // P10.1
	for n := -64; n < 64; n++ {
		if l := etcone.Table(n); l != tables[(n+64)%8] {
			t.Errorf("Table(%d) = %v", n, l)
		}
	}
	for _, n := range far {
		if l := etcone.Table(n); l != tables[(n%8+8)%8] {
			t.Errorf("Table(%d) = %v", n, l)
		}
	}
	l := etcone.Table(3)
	l[0] = 99
	if etcone.Table(3) != tables[3] {
		t.Error("a caller's table is not the caller's own")
	}
}

func TestHalf(t *testing.T) { // P10.1
	want := map[bool][16]int{
		false: {0, 0, 1, 1, 0, 0, 1, 1, 0, 0, 1, 1, 0, 0, 1, 1},
		true:  {0, 0, 0, 0, 0, 0, 0, 0, 1, 1, 1, 1, 1, 1, 1, 1},
	}
	for flip, l := range want {
		for n := -48; n < 48; n++ {
			if half := etcone.Half(flip, n); half != l[(n+48)%16] {
				t.Errorf("Half(%t, %d) = %d", flip, n, half)
			}
		}
		for _, n := range far {
			if half := etcone.Half(flip, n); half != l[(n%16+16)%16] {
				t.Errorf("Half(%t, %d) = %d", flip, n, half)
			}
		}
	}
}

func TestPartsExamples(t *testing.T) { // P10.2: blocks written out
	for _, c := range []struct {
		block string
		want  etcone.Block
	}{
		{"0000000000000000", etcone.Block{}},
		{"ffffffffffffffff", etcone.Block{Diff: true, Flip: true, A: [3]int{31, 31, 31}, B: [3]int{-1, -1, -1}, Tables: [2]int{7, 7}, Which: alike(3)}},
		{"fffffffc00000000", etcone.Block{A: [3]int{15, 15, 15}, B: [3]int{15, 15, 15}, Tables: [2]int{7, 7}}},
		{"1234562c00000000", etcone.Block{A: [3]int{1, 3, 5}, B: [3]int{2, 4, 6}, Tables: [2]int{1, 3}}},
		{"0c7bfc0200000000", etcone.Block{Diff: true, A: [3]int{1, 15, 31}, B: [3]int{-4, 3, -4}}},
		{"000000c000000000", etcone.Block{Tables: [2]int{6, 0}}},
		{"0000003800000000", etcone.Block{Tables: [2]int{1, 6}}},
		{"0000000100000000", etcone.Block{Flip: true}},
		{"0000000200000000", etcone.Block{Diff: true}},
		{"0000000000010000", etcone.Block{Which: [16]int{0: 2}}},
		{"0000000000000001", etcone.Block{Which: [16]int{0: 1}}},
		{"0000000000020002", etcone.Block{Which: [16]int{4: 3}}},
		{"0000000000100000", etcone.Block{Which: [16]int{1: 2}}},
		{"0000000080000000", etcone.Block{Which: [16]int{15: 2}}},
		{"0000000000008000", etcone.Block{Which: [16]int{15: 1}}},
		{"0000000010001000", etcone.Block{Which: [16]int{3: 3}}},
		{"0000000000080008", etcone.Block{Which: [16]int{12: 3}}},
	} {
		b, err := hex.DecodeString(c.block)
		if err != nil {
			t.Fatal(err)
		}
		if x, e := etcone.Parts(b); e != api.OK || x != c.want {
			t.Errorf("Parts(%s) = %+v, %d, not %+v", c.block, x, e, c.want)
		}
		if l, e := etcone.Join(c.want); e != api.OK || hex.EncodeToString(l) != c.block {
			t.Errorf("Join(%+v) = %x, %d, not %s", c.want, l, e, c.block)
		}
	}
}

func TestEachBit(t *testing.T) { // P10.2, P10.4: each bit alone, and all but it, and two of them
	for i := range 64 {
		for k := range 64 {
			for _, rest := range []byte{0, 255} {
				b := slices.Repeat([]byte{rest}, 8)
				b[i/8] ^= 1 << (i % 8)
				if k != i {
					b[k/8] ^= 1 << (k % 8)
				}
				x, e := etcone.Parts(b)
				if want := build(x); e != api.OK || !slices.Equal(want, b) {
					t.Errorf("Parts(%x) = %+v, %d", b, x, e)
				}
				if c, e := etcone.Join(x); e != api.OK || !slices.Equal(c, b) {
					t.Errorf("Join of the parts of %x: %x, %d", b, c, e)
				}
			}
		}
	}
}

func TestManyBlocks(t *testing.T) { // P10.2 to P10.4
	for seed := range 5000 {
		for _, k := range kinds {
			check(t, mixed(seed, k[0], k[1]))
		}
	}
}

func TestColours(t *testing.T) { // P10.2, P10.3: each number of A with each of B, in each channel, the other channels at their ends
	for _, k := range kinds {
		diff := k[0]
		manyA, leastB, mostB := 16, 0, 15
		if diff {
			manyA, leastB, mostB = 32, -4, 3
		}
		for c := range 3 {
			for a := range manyA {
				for b := leastB; b <= mostB; b++ {
					for _, others := range [][2]int{{0, 0}, {manyA - 1, leastB}, {manyA - 1, mostB}, {0, leastB}, {5, 2}} {
						x := mixed(a, diff, k[1])
						x.A = [3]int{others[0], others[0], others[0]}
						x.B = [3]int{others[1], others[1], others[1]}
						x.A[c], x.B[c] = a, b
						check(t, x)
					}
				}
			}
		}
	}
}

func TestBasesExamples(t *testing.T) { // P10.3
	for i, c := range []struct {
		x    etcone.Block
		want [2]api.Texel
		far  int
	}{
		{etcone.Block{}, [2]api.Texel{{0, 0, 0, 255}, {0, 0, 0, 255}}, 3},
		{etcone.Block{A: [3]int{15, 1, 0}, B: [3]int{0, 15, 8}}, [2]api.Texel{{255, 17, 0, 255}, {0, 255, 136, 255}}, 3},
		{etcone.Block{Diff: true, A: [3]int{0, 31, 16}}, [2]api.Texel{{0, 255, 132, 255}, {0, 255, 132, 255}}, 3},
		{etcone.Block{Diff: true, A: [3]int{4, 28, 16}, B: [3]int{-4, 3, -1}}, [2]api.Texel{{33, 231, 132, 255}, {0, 255, 123, 255}}, 3},
		{etcone.Block{Diff: true, A: [3]int{3, 28, 16}, B: [3]int{-4, 3, -1}}, [2]api.Texel{{24, 231, 132, 255}, {255, 255, 123, 255}}, 0},
		{etcone.Block{Diff: true, A: [3]int{4, 29, 0}, B: [3]int{-4, 3, -1}}, [2]api.Texel{{33, 239, 0, 255}, {0, 0, 255, 255}}, 1},
		{etcone.Block{Diff: true, A: [3]int{4, 28, 0}, B: [3]int{-4, 3, -1}}, [2]api.Texel{{33, 231, 0, 255}, {0, 255, 255, 255}}, 2},
		{etcone.Block{Diff: true, A: [3]int{31, 31, 31}, B: [3]int{3, 3, 3}}, [2]api.Texel{{255, 255, 255, 255}, {16, 16, 16, 255}}, 0},
	} {
		if l, far := etcone.Bases(c.x); l != c.want || far != c.far {
			t.Errorf("%d: Bases = %v, %d, not %v, %d", i, l, far, c.want, c.far)
		}
	}
}

func TestFirstTooFar(t *testing.T) { // P10.3: each set of channels that go too far, below 0 or above 31
	for set := range 8 {
		for ways := range 8 {
			x := etcone.Block{Diff: true, A: [3]int{9, 9, 9}, B: [3]int{-4, 3, 0}}
			want := 3
			for c := 2; c >= 0; c-- {
				if set>>c&1 == 0 {
					continue
				}
				want = c
				x.A[c], x.B[c] = 31, 1
				if ways>>c&1 == 1 {
					x.A[c], x.B[c] = 0, -1
				}
			}
			if _, far := etcone.Bases(x); far != want {
				t.Errorf("Bases(%+v): %d, not %d", x, far, want)
			}
			check(t, x)
		}
	}
}

func TestTwoColoursGoNowhere(t *testing.T) { // P10.3: without Diff no channel goes too far, whatever the sums are
	for n := range 16 {
		x := etcone.Block{A: [3]int{15, 15, 15}, B: [3]int{n, 15, 15}}
		if _, far := etcone.Bases(x); far != 3 {
			t.Errorf("Bases(%+v): %d", x, far)
		}
		check(t, etcone.Block{Diff: true, A: [3]int{n + 4, 28, 31}, B: [3]int{-4, 3, 0}, Which: alike(1)})
	}
}

func TestZeros(t *testing.T) { // P10.3: the chapter's example
	u, e := etcone.Decode(make([]byte, 8))
	for i, x := range u {
		if e != api.OK || x != (api.Texel{2, 2, 2, 255}) {
			t.Errorf("texel %d is %v, %d", i, x, e)
		}
	}
}

func TestEachIndex(t *testing.T) { // P10.2, P10.3: each index at each texel, of each pair of tables
	for _, k := range kinds {
		for pair := range 64 {
			for i := range 16 {
				for v := range 4 {
					x := mixed(pair, k[0], k[1])
					x.Tables = [2]int{pair / 8, pair % 8}
					x.Which = alike((v + 1) % 4)
					x.Which[i] = v
					check(t, x)
				}
			}
		}
	}
}

func TestClamped(t *testing.T) { // P10.3: texels below 0 and above 255, some of them in one channel alone
	x := etcone.Block{A: [3]int{0, 8, 15}, B: [3]int{15, 0, 7}, Tables: [2]int{7, 6}, Which: [16]int{0, 1, 0, 1, 2, 3, 2, 3}}
	want := [8]api.Texel{{47, 183, 255, 255}, {183, 255, 255, 255}, {255, 33, 152, 255}, {255, 106, 225, 255}, {0, 89, 208, 255}, {0, 0, 72, 255}, {222, 0, 86, 255}, {149, 0, 13, 255}}
	if u := etcone.Paint(x); [8]api.Texel(u[:8]) != want {
		t.Errorf("Paint: %v, not %v", u[:8], want)
	}
	for n := range 8 {
		for a := range 32 {
			for v := range 4 {
				check(t, etcone.Block{Diff: true, A: [3]int{a, 31 - a, 0}, Tables: [2]int{n, 7 - n}, Which: alike(v)})
			}
		}
	}
}

func TestDecodeBlocks(t *testing.T) { // P10.3: blocks and their texels' red, green and blue, written out; of those with Diff some go too far
	for _, c := range []struct{ block, texels string }{
		{"21ee2ffca2924fae", "51ff5100bf00c8ffff40ffff003700d9ffd900374800bfd0d9ffd951ff51c8ffffc8ffffd9ffd9003700c8ffff00bfd0"},
		{"3629e66ca3c9a256", "2615e15d4cff598c5973a6735d4cff402ffb3c6f3c3c6f3c5d4cff0900c473a67373a6732615e12615e173a6733c6f3c"},
		{"291ffb15a2e1a6e6", "200ffd2413ff2413ff2413ff2a19ff1a09f71a09f71a09f7e9ffff49af6be9ffffb1ffd3b1ffd349af6bb1ffd349af6b"},
		{"385a57c165158af6", "1234340000001234345476769dbfbf9dbfbf9dbfbf12343480a26f90b27f86a87586a8758aac7990b27f90b27f90b27f"},
		{"d2ce350239036668", "d4cc2fd8d033e5bb16e5bb16d4cc2fded639efc520dfb510d8d033ded639efc520efc520ded639d8d033e5bb16e9bf1a"},
		{"dbd55b1ae2b7eb28", "dcd458dcd458ffffddffde94dcd458d6ce528d53098d5309dcd458e0d85cffde948d5309e6de62dcd458ffffdd8d5309"},
		{"e9b4c6ee86eea274", "ffe4f5ffffffffa1c2ffa1c2c0869738000fcd6a8bffbedf38000f38000fea87a8ffa1c2c08697c08697ffa1c2cd6a8b"},
		{"5e0e547a28925fa7", "84327c4d0045b4ff9bb4ff9b30002884327cb4ff9b29de1084327c67155fb4ff9bb4ff9b67155f3000280095006bff52"},
		{"e2f3df727dd34cdf", "bdcdb4bdcdb4e500c4e500c4bdcdb4f4ffebff1ae8e500c4ffffffbdcdb4bb009abb009affffffbdcdb4bb009aff1ae8"},
		{"f252ecfe60bb6946", "c823c0c823c0b7ffff2f92fd400038c823c02f92fd000017ffffffffffff2f92fd000017c823c0c823c0b7ffff2f92fd"},
		{"7d93f68f095d1b87", "3f58bb6982e53f58bbb7d0ffb7d0ff8da6ffb7d0ff8da6ff3983bd56a0da70baf470baf456a0da8dd7ff3983bd70baf4"},
		{"9392518f4ca5be5a", "828240d0d08ea6a664d0d08ed0d08e828240d0d08ed0d08ea0984dd7cf84837b30a0984dd7cf84a0984d837b30d7cf84"},
		{"b64b0ad37d9a3cc8", "d66b299429009429004b0000942900d66b29d66b294b0000b7752ae19f54692700935106692700692700692700b7752a"},
		{"0ec53d6bf3b6f3ed", "32f06300b92c009c0f009c0f00b92c009c0f009c0f009c0fe29004ffca3effb62ae29004ffca3ee29004ffb62ae29004"},
		{"90f39fbff304bcf7", "e4ffece4ffec7cdf8444a74ce4ffece4ffec7cdf8444a74c000000ffbfffffbfff650065c337c3ffbfffffbfff000000"},
		{"b60537d7caec7d00", "d62152d62152ff6a9bff6a9bd62152940010940010ff6a9b8dd7118dd711f5ff79559f008dd7118dd711559f008dd711"},
	} {
		b, err := hex.DecodeString(c.block)
		if err != nil {
			t.Fatal(err)
		}
		u, e := etcone.Decode(b)
		var l []byte
		for i, x := range u {
			if x[3] != 255 {
				t.Errorf("%s: texel %d is %v", c.block, i, x)
			}
			l = append(l, byte(x[0]), byte(x[1]), byte(x[2]))
		}
		if e != api.OK || hex.EncodeToString(l) != c.texels {
			t.Errorf("%s: %d, %x, not %s", c.block, e, l, c.texels)
		}
	}
}

func TestTransposed(t *testing.T) { // P10.4
	for seed := range 2000 {
		x := mixed(seed, seed%2 == 0, false)
		y := x
		y.Flip = true
		for i := range 16 {
			y.Which[i%4*4+i/4] = x.Which[i]
		}
		u, v := etcone.Paint(x), etcone.Paint(y)
		for i := range 16 {
			if u[i] != v[i%4*4+i/4] {
				t.Fatalf("%+v: texel %d is %v, with Flip %v", x, i, u[i], v[i%4*4+i/4])
			}
		}
	}
	for i := range 16 {
		if etcone.Half(false, i) != etcone.Half(true, i%4*4+i/4) {
			t.Errorf("texel %d: half %d", i, etcone.Half(false, i))
		}
	}
}

func TestWrongSizes(t *testing.T) { // P10.2, P10.3, R1, R2
	l := [][]byte{nil}
	for _, size := range wrongSizes {
		l = append(l, make([]byte, size), slices.Repeat([]byte{255}, size), make([]byte, size, size+8))
	}
	for _, b := range l {
		if x, e := etcone.Parts(b); x != (etcone.Block{}) || e != api.ErrArg {
			t.Errorf("Parts of %d bytes: %+v, %d", len(b), x, e)
		}
		if u, e := etcone.Decode(b); u != (api.Tile{}) || e != api.ErrArg {
			t.Errorf("Decode of %d bytes: %v, %d", len(b), u, e)
		}
	}
}

// wrong tells of a block that Join has taken though it may not be.
func wrong(t *testing.T, x etcone.Block) {
	t.Helper()
	if b, e := etcone.Join(x); len(b) != 0 || e != api.ErrArg {
		t.Errorf("Join(%+v) = %x, %d", x, b, e)
	}
}

func TestWrongColours(t *testing.T) { // P10.2, R1
	for _, k := range kinds {
		wrongA, wrongB := []int{-2, -1, 16, 17, 31, 32}, []int{-5, -4, -1, 16, 17, 32}
		if k[0] {
			wrongA, wrongB = []int{-4, -1, 32, 33}, []int{-6, -5, 4, 5, 7, 8, 15, 16, 31, 32}
		}
		for c := range 3 {
			for seed := range 5 {
				for _, n := range append(wrongA, far...) {
					x := mixed(seed, k[0], k[1])
					x.A[c] = n
					wrong(t, x)
				}
				for _, n := range append(wrongB, far...) {
					x := mixed(seed, k[0], k[1])
					x.B[c] = n
					wrong(t, x)
				}
			}
		}
	}
}

func TestWrongTablesAndIndices(t *testing.T) { // P10.2, R1
	for _, k := range kinds {
		for half := range 2 {
			for _, n := range append([]int{-2, -1, 8, 9, 15, 16}, far...) {
				x := mixed(half, k[0], k[1])
				x.Tables[half] = n
				wrong(t, x)
			}
		}
		for i := range 16 {
			for _, n := range append([]int{-4, -2, -1, 4, 5, 7, 8, 16}, far...) {
				x := mixed(i, k[0], k[1])
				x.Which[i] = n
				wrong(t, x)
			}
		}
		for _, n := range far {
			wrong(t, etcone.Block{Diff: k[0], Flip: k[1], A: [3]int{n, n, n}, B: [3]int{n, n, n}, Tables: [2]int{n, n}, Which: alike(n)})
		}
	}
}

func TestNothingPanics(t *testing.T) { // P0: nothing is promised of these blocks, but they must not stop the program
	for _, k := range kinds {
		for _, n := range far {
			for _, m := range far {
				x := etcone.Block{Diff: k[0], Flip: k[1], A: [3]int{n, m, n}, B: [3]int{m, m, n}, Tables: [2]int{n, m}, Which: alike(m)}
				etcone.Bases(x)
				etcone.Paint(x)
			}
		}
	}
}

func TestNothingShared(t *testing.T) { // R3
	for _, x := range blocks() {
		long := slices.Repeat(build(x), 3)
		kept, b := slices.Clone(long), long[8:16]
		y, _ := etcone.Parts(b)
		etcone.Decode(b)
		if !slices.Equal(long, kept) {
			t.Errorf("%x has become %x", kept, long)
		}
		clear(b)
		if y != x {
			t.Errorf("%+v has become %+v", x, y)
		}
		first, _ := etcone.Join(x)
		second, _ := etcone.Join(x)
		clear(first)
		if !slices.Equal(second, kept[8:16]) {
			t.Errorf("Join's answers share memory: %x has become %x", kept[8:16], second)
		}
	}
}

func TestManyAtOnce(t *testing.T) { // R4, R5
	shared := blocks()
	var bytes [][]byte
	var tiles []api.Tile
	for _, x := range shared {
		bytes, tiles = append(bytes, build(x)), append(tiles, tileOf(x))
	}
	var all sync.WaitGroup
	for range 8 {
		all.Go(func() {
			for i, x := range shared {
				y, e := etcone.Parts(bytes[i])
				b, f := etcone.Join(x)
				u, g := etcone.Decode(bytes[i])
				if e != api.OK || f != api.OK || g != api.OK || y != x || !slices.Equal(b, bytes[i]) || u != tiles[i] || etcone.Paint(x) != u {
					t.Errorf("block %d: %+v, %x, %d, %d, %d", i, y, b, e, f, g)
				}
			}
		})
	}
	all.Wait()
}
