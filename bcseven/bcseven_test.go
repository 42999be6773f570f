package bcseven_test

import (
	"encoding/hex"
	"math"
	"slices"
	"sync"
	"testing"

	"swatch/api"
	"swatch/bcseven"
	"swatch/bctable"
)

// opaque is the greatest alpha, and that of the modes without alpha.
const opaque = 255

// far are numbers at the ends of the range of int, and numbers of which some low bits are those of small ones.
var far = []int{math.MinInt, math.MinInt + 1, -1 << 32, -1<<32 + 1, -1 << 16, -256, -255, -128, -127, -2, -1, 256, 257, 1 << 16, 1 << 32, 1<<32 + 1, math.MaxInt - 1, math.MaxInt}

// wrongSizes are numbers of bytes that no block has.
var wrongSizes = []int{0, 1, 2, 7, 8, 14, 15, 17, 18, 31, 32, 64}

// fields are those of a block: its p-bits are, by mode, those of the endpoints or those of the subsets.
type fields struct {
	mode, way, turn, choice int
	ends                    [6][4]int
	more                    [6]int
	first, second           [16]int
}

// modeOf are the widths of the fields of a block.
func modeOf(f fields) bctable.Mode { return bctable.Modes()[f.mode] }

// anchored tells whether a texel's first index has one bit less.
func anchored(f fields, texel int) bool {
	parts := modeOf(f).Parts
	for part := 1; part < parts; part++ {
		if bctable.Anchor(parts, f.way, part) == texel {
			return true
		}
	}
	return texel == 0
}

// build is the block of such fields: bit after bit, the lowest of each field first.
func build(t *testing.T, f fields) []byte {
	t.Helper()
	m := modeOf(f)
	var l []byte
	put := func(n, width int) {
		if n < 0 || n >= 1<<width {
			t.Fatalf("mode %d: %d in %d bits", f.mode, n, width)
		}
		for k := range width {
			l = append(l, byte(n>>k&1))
		}
	}
	put(1<<f.mode, f.mode+1)
	put(f.way, m.Ways)
	put(f.turn, m.Turns)
	put(f.choice, m.Choice)
	for c, width := range []int{m.Colour, m.Colour, m.Colour, m.Alpha} {
		for i := range 2 * m.Parts {
			put(f.ends[i][c], width)
		}
	}
	for i := range m.Parts * (2*m.Each + m.Both) {
		put(f.more[i], 1)
	}
	for i, n := range f.first {
		if anchored(f, i) {
			put(n, m.First-1)
		} else {
			put(n, m.First)
		}
	}
	if m.Second != 0 {
		put(f.second[0], m.Second-1)
		for _, n := range f.second[1:] {
			put(n, m.Second)
		}
	}
	if len(l) != 128 {
		t.Fatalf("mode %d: %d bits", f.mode, len(l))
	}
	b := make([]byte, 16)
	for i, bit := range l {
		b[i/8] |= bit << (i % 8)
	}
	return b
}

// wide is a number of 5 to 8 bits as one of 8.
func wide(n, bits int) int { return n<<(8-bits) | n>>(2*bits-8) }

// endOf is the colour of an endpoint.
func endOf(f fields, i int) api.Texel {
	m := modeOf(f)
	var out api.Texel
	for c, width := range []int{m.Colour, m.Colour, m.Colour, m.Alpha} {
		n := f.ends[i][c]
		switch {
		case c == 3 && m.Alpha == 0:
			out[c] = opaque
		case m.Each == 1:
			out[c] = wide(2*n+f.more[i], width+1)
		case m.Both == 1:
			out[c] = wide(2*n+f.more[i/2], width+1)
		default:
			out[c] = wide(n, width)
		}
	}
	return out
}

// mix is a number between two from 0 to 255, with a weight of 64 of the second one.
func mix(a, b, weight int) int { return (a*(64-weight) + b*weight + 32) / 64 }

// tileOf are the texels of a block of such fields.
func tileOf(f fields) api.Tile {
	m := modeOf(f)
	var out api.Tile
	for i := range out {
		part := bctable.Part(m.Parts, f.way, i)
		a, b := endOf(f, 2*part), endOf(f, 2*part+1)
		weight := bctable.Weights(m.First)[f.first[i]]
		alpha := weight
		if m.Second != 0 {
			alpha = bctable.Weights(m.Second)[f.second[i]]
		}
		if f.choice == 1 {
			weight, alpha = alpha, weight
		}
		u := api.Texel{mix(a[0], b[0], weight), mix(a[1], b[1], weight), mix(a[2], b[2], weight), mix(a[3], b[3], alpha)}
		switch f.turn {
		case 1:
			u = api.Texel{u[3], u[1], u[2], u[0]}
		case 2:
			u = api.Texel{u[0], u[3], u[2], u[1]}
		case 3:
			u = api.Texel{u[0], u[1], u[3], u[2]}
		}
		out[i] = u
	}
	return out
}

// mixed are fields that look without order but are the same each time, of a block of a mode with a partition number.
func mixed(mode, way, seed int) fields {
	state := uint32(seed*64+way)*8 + uint32(mode)
	next := func(width int) int {
		state = state*1664525 + 1013904223
		return int(state>>12) % (1 << width)
	}
	f := fields{mode: mode, way: way}
	m := modeOf(f)
	f.turn, f.choice = next(m.Turns), next(m.Choice)
	for i := range f.ends {
		f.ends[i] = [4]int{next(m.Colour), next(m.Colour), next(m.Colour), next(m.Alpha)}
		f.more[i] = next(1)
	}
	for i := range f.first {
		f.first[i], f.second[i] = next(m.First), next(m.Second)
		if anchored(f, i) {
			f.first[i] /= 2
		}
	}
	f.second[0] /= 2
	return f
}

// check holds Decode against the texels of the fields.
func check(t *testing.T, f fields) {
	t.Helper()
	b := build(t, f)
	if n := bcseven.Mode(b); n != f.mode {
		t.Errorf("%+v: Mode is %d", f, n)
	}
	got, e := bcseven.Decode(b)
	if e != api.OK {
		t.Errorf("%+v: %d", f, e)
	}
	for i, want := range tileOf(f) {
		if got[i] != want {
			t.Errorf("%+v: texel %d is %v, not %v", f, i, got[i], want)
		}
	}
}

// allBytes is a block whose bytes are all alike but for the first one.
func allBytes(first, rest byte) []byte {
	return append([]byte{first}, slices.Repeat([]byte{rest}, 15)...)
}

// alike are 16 times the same number.
func alike(n int) [16]int {
	return [16]int(slices.Repeat([]int{n}, 16))
}

func TestMode(t *testing.T) { // P9.1
	for first := range 256 {
		want := 8
		for mode := 7; mode >= 0; mode-- {
			if first>>mode%2 == 1 {
				want = mode
			}
		}
		for _, rest := range []byte{0, 1, 0x5a, 255} {
			if n := bcseven.Mode(allBytes(byte(first), rest)); n != want {
				t.Errorf("Mode of first byte %d, then %d, is %d, not %d", first, rest, n, want)
			}
		}
	}
}

func TestWrongSizes(t *testing.T) { // P9.1, R1, R2
	l := [][]byte{nil}
	for _, size := range wrongSizes {
		l = append(l, make([]byte, size), slices.Repeat([]byte{255}, size), slices.Repeat([]byte{64}, size), make([]byte, size, size+16))
	}
	for _, b := range l {
		if n := bcseven.Mode(b); n != 8 {
			t.Errorf("Mode of %d bytes is %d", len(b), n)
		}
		if u, e := bcseven.Decode(b); u != (api.Tile{}) || e != api.ErrArg {
			t.Errorf("Decode of %d bytes: %v, %d", len(b), u, e)
		}
	}
}

func TestNoMode(t *testing.T) { // P9.1
	for rest := range 256 {
		b := allBytes(0, byte(rest))
		if u, e := bcseven.Decode(b); u != (api.Tile{}) || e != api.OK {
			t.Errorf("Decode(%v) = %v, %d", b, u, e)
		}
	}
}

func TestDecodeBlocks(t *testing.T) { // P9.1: blocks and the bytes of their texels, written out
	for _, c := range []struct {
		mode          int
		block, texels string
	}{
		{0, "53f22665a60c12d289185d950ee88136", "52313eff41312aff74316aff41312aff6359bbff396b4aff7352e7ff7352e7ff6359bbff416760ff5b5da5ff7352e7ff565a93ff3886baff3886baff940042ff"},
		{0, "95cc7411d717f14579b2aa100fbbb34f", "4e92e0ff5ca95fff4a8cffff5198c1ff8dcdbbffa5b5c6ff6befadff8dcdbbff94867affa5895fff848494ff9c876eff94867aff848494ffb58b46ffb58b46ff"},
		{1, "0a166f6b113d178d6c0fd3901ff239a1", "5a4636ff8a4a48ffcbb5beff9a6464ffb2988cff6a160effab8185ffdbcfdbff705a4bff6a160effab8185ff7a302bff705a4bffcbb5beff9a6464ffbb9ba1ff"},
		{1, "a693feaed27248b762e3ab5805f0765a", "7a42acff7a42acff6446c6ffb144e2ff7a42acffbf365dffbf1edbffbf1edbffbf1edbffb144e2ff903e93ff903e93ffaf4ae3ffa93a76ffd53243ff7a42acff"},
		{2, "a495f20f9395650cf9380b8edb224a6b", "52804cff90494cff21ce73ff578d60ff525a39fff794b5ffce917afff794b5ff52804cffce917affa48f3bffa48f3bff52804cff90494cff21ce73ffc60839ff"},
		{2, "2c9c1d7e0f37c44921bd3f6564eadf7f", "73734aff9f366bff611ddfff1810ffff89555aff89555afff7399cfff7399cffb5187bffb5187bff591e8fff18088cffb5187bffb5187bff18088cffde4a94ff"},
		{3, "288a1e924e8fd0ae2e1a9492a3305f18", "447a16ff25db29ff385518ff2ccb34ff25db29ff2b2e19ff2ccb34ff447a16ff1f091bff3bab4bff385518ff2ccb34ff25db29ff2b2e19ff2ccb34ff447a16ff"},
		{3, "182a72668c47e223d16edd8c47b46afc", "33346aff143c68ff542d6dff143c68ff645a60ff645a60ff9a6c8eff9a6c8eff33346aff33346aff73256fff143c68ff645a60ff314933ff314933ff9a6c8eff"},
		{4, "90b610900f9e347fae886dc6507795ec", "8e18a4a450096363a11cb9a47a138f63640e7824a11cb924640e78248e18a4e3290039243d054ea4500963a48e18a4a4a11cb9e3a11cb9a47a138fe329003924"},
		{4, "306a5860501ed7540053c056d6651ef0", "e77a373fe73b3c2bda3b3c2bda7a373fd03b3c2bd53b3c2bd03b3c2bccb53152d0b53152d5b53152e3b53152c73b3c2be37a373fe73b3c2bd53b3c2bc7b53152"},
		{4, "50aee261f53b26152d263ba83b037cd4", "86b7c08d738eb5c686bec08d9aa2cb519ab1cb519a8ecb517395b5c69ab7cb519aaacb5186bec08d86bec08d7395b5c6ad8ed61873beb5c6869cc08d9a95cb51"},
		{4, "f0fc8c523e08f7e14f375b2e00556115", "cf1a97479e1fae83cf1ac3473929c3ffb61d8265e7188229e718c329e718c3296a24c3c3b61d97656a24aec3e718ae295127c3e1b61dae656a2497c3e718ae29"},
		{5, "2036ab4dc81fe5c627f0b7a4a95d2440", "8174beb96c6cf9df8174bedf6c6cf9df6c6cf9cb987d81f1ad8546cbad8546cbad8546b9987d81cb8174bedf8174beb9987d81b96c6cf9b98174beb9ad8546cb"},
		{5, "605c4c3fcb2eb2c73e14934c867ee057", "d9e3bf8cd9b38b30ece3bf8cc4fbd9b9c4cba55db1cba55db1fbd9b9d9cba55dece3bf8ceccba55dc4fbd9b9b1e3bf8cb1cba55dd9e3bf8cd9cba55dd9fbd9b9"},
		{5, "a02e434801256b885e9c9051f320b0db", "4247ae330c1ac91426a2bc235ca2a142261abc230c1ac9145c75a142421aae335c1aa142261abc235ca2a1420c75c9145ca2a1422675bc232647bc2326a2bc23"},
		{5, "e032b603e6bd4a405f106463ffde9613", "8a3250b8d960d0afb34ad0b4641cd0bd641c92bdb34ad0b4641c50bd641cd0bdb34a92b4641c50bdd96050afb34a92b48a32d0b8641c12bdd96050afb34a12b4"},
		{6, "c072499bfa121e836b2ac15726ee7d6b", "a1958317978d75157573450fb9a7a51cc3afb41e65672e0c8f876a14a1958317978d7515b9a7a51c53591409535914095d61230a8f876a146d6d390d978d7515"},
		{6, "c0f39ea7adbd0d74e6dec7f3dfaecc8f", "d6848239f4b0d7daf4b0d7daf0accec9e194a073eea8c6bbd6848239f6b4dee8f6b4dee8f0accec9f4b0d7dae9a0b8a0eea8c6bbeea8c6bbf6b4dee8e398a881"},
		{7, "80f6ab13c38e92cae0d15057b159987f", "7d8655a6b7485375aa462a929bcaa43c8ca77c729bcaa43caa462a92aa462a929e4504ae9bcaa43c8ca77c72b7485375c3497959c3497959aaebcb088ca77c72"},
		{7, "806566641a7ba2660f3011fc3570291c", "ac5fb24a737029a7ac5fb24a243c7d0ccf34d765737029a765b66514737029a7243c7d0c888b8a2f737029a7cf34d765243c7d0c65b665144b565458cf34d765"},
	} {
		b, err := hex.DecodeString(c.block)
		if err != nil {
			t.Fatal(err)
		}
		u, e := bcseven.Decode(b)
		var l []byte
		for _, x := range u {
			for _, n := range x {
				l = append(l, byte(n))
			}
		}
		if n := bcseven.Mode(b); n != c.mode || e != api.OK || hex.EncodeToString(l) != c.texels {
			t.Errorf("%s: mode %d, %d, %x, not %s", c.block, n, e, l, c.texels)
		}
	}
}

func TestEachPartition(t *testing.T) { // P9.1: each mode, with each of its partition numbers
	for mode, m := range bctable.Modes() {
		for way := range 1 << m.Ways {
			for seed := range 8 {
				check(t, mixed(mode, way, seed))
			}
		}
	}
}

func TestManyBlocks(t *testing.T) { // P9.1
	for mode := range 8 {
		for seed := range 500 {
			check(t, mixed(mode, seed%(1<<bctable.Modes()[mode].Ways), seed+1000))
		}
	}
}

func TestEachBit(t *testing.T) { // P9.1: each bit of each field, alone, and with all bits of the field but this one
	for mode, m := range bctable.Modes() {
		for _, full := range []int{0, 1} {
			for i := range 2 * m.Parts {
				for c, width := range []int{m.Colour, m.Colour, m.Colour, m.Alpha} {
					for k := range width {
						f := mixed(mode, 0, full)
						f.ends[i][c] = 1<<k ^ full*(1<<width-1)
						check(t, f)
					}
				}
			}
		}
	}
}

func TestFieldEnds(t *testing.T) { // P9.1: each number of an endpoint at both ends of its range, the others at both too
	for mode, m := range bctable.Modes() {
		most := [4]int{1<<m.Colour - 1, 1<<m.Colour - 1, 1<<m.Colour - 1, 1<<m.Alpha - 1}
		for _, others := range [][4]int{{}, most} {
			for i := range 2 * m.Parts {
				for c := range 4 {
					f := mixed(mode, 1<<m.Ways-1, 5)
					for k := range f.ends {
						f.ends[k] = others
					}
					check(t, f)
					f.ends[i][c] = most[c] - others[c]
					check(t, f)
				}
			}
		}
	}
}

func TestMoreBits(t *testing.T) { // P9.1: p-bits, each alone set and each alone not
	for mode, m := range bctable.Modes() {
		for i := range m.Parts * (2*m.Each + m.Both) {
			for rest := range 2 {
				f := mixed(mode, 1<<m.Ways/3, 9)
				f.more = [6]int{rest, rest, rest, rest, rest, rest}
				f.more[i] = 1 - rest
				check(t, f)
				f.ends = [6][4]int{}
				check(t, f)
			}
		}
	}
}

func TestMoreBitsOfSubsets(t *testing.T) { // P9.1: mode 1 has a p-bit for both endpoints of a subset, mode 3 one for each endpoint
	for mode, want := range map[int][4]int{1: {2, 2, 0, 0}, 3: {1, 0, 0, 0}} {
		f := fields{mode: mode, more: [6]int{1}}
		most := 1<<modeOf(f).First - 1
		f.first = [16]int{0, most, 0, most} // two texels of subset 0, two of subset 1
		u, e := bcseven.Decode(build(t, f))
		for i, n := range want {
			if e != api.OK || u[i] != (api.Texel{n, n, n, opaque}) {
				t.Errorf("mode %d: texel %d is %v, not %d, %d", mode, i, u[i], n, e)
			}
		}
	}
}

func TestMoreBitsOfNone(t *testing.T) { // P9.1: modes 2, 4 and 5 have no p-bits: a number's lowest bit is its last
	for mode, want := range map[int]int{2: 8, 4: 8, 5: 2} {
		f := fields{mode: mode}
		f.ends[0] = [4]int{1, 1, 1, 0}
		u, e := bcseven.Decode(build(t, f))
		if e != api.OK || u[0][0] != want || u[0][1] != want || u[0][2] != want {
			t.Errorf("mode %d: %v, not %d, %d", mode, u[0], want, e)
		}
	}
}

func TestAlpha(t *testing.T) { // P9.1: modes without alpha are opaque, and the others have what their endpoints have
	for mode := range 8 {
		for seed := range 20 {
			f := mixed(mode, seed%(1<<bctable.Modes()[mode].Ways), seed)
			f.turn = 0
			u, e := bcseven.Decode(build(t, f))
			if e != api.OK {
				t.Fatal(e)
			}
			for i, x := range u {
				if mode < 4 && x[3] != opaque {
					t.Errorf("%+v: texel %d has alpha %d", f, i, x[3])
				}
			}
			if mode >= 4 && slices.IndexFunc(u[:], func(x api.Texel) bool { return x[3] != opaque }) < 0 {
				t.Errorf("%+v: all opaque", f)
			}
		}
	}
}

func TestBothEnds(t *testing.T) { // P9.1: the least and the greatest weight are the endpoints themselves
	for mode, m := range bctable.Modes() {
		for way := range 1 << m.Ways {
			f := mixed(mode, way, 3)
			f.turn, f.first, f.second = 0, [16]int{}, [16]int{}
			checkEnds(t, f, 0)
			f.first, f.second = alike(1<<m.First-1), alike(1<<m.Second-1)
			f.second[0] = max(0, 1<<m.Second/2-1)
			for i := range f.first {
				if anchored(f, i) {
					f.first[i] = 1<<(m.First-1) - 1
				}
			}
			checkEnds(t, f, 1)
		}
	}
}

// checkEnds holds each texel but the anchors, or, for the first endpoints, each texel at all, against an endpoint of its subset.
func checkEnds(t *testing.T, f fields, which int) {
	t.Helper()
	u, e := bcseven.Decode(build(t, f))
	if e != api.OK {
		t.Fatal(e)
	}
	for i, x := range u {
		if which == 1 && anchored(f, i) {
			continue
		}
		if want := endOf(f, 2*bctable.Part(modeOf(f).Parts, f.way, i)+which); x != want {
			t.Errorf("%+v: texel %d is %v, not %v", f, i, x, want)
		}
	}
}

func TestEachIndex(t *testing.T) { // P9.1: each index at each texel, with one bit less at the anchors
	for mode, m := range bctable.Modes() {
		for _, way := range []int{0, 1<<m.Ways - 1, 1 << m.Ways / 3} {
			for i := range 16 {
				f := mixed(mode, way, i)
				many := 1 << m.First
				if anchored(f, i) {
					many /= 2
				}
				for v := range many {
					f.first[i] = v
					check(t, f)
				}
				if m.Second == 0 {
					continue
				}
				many = 1 << m.Second
				if i == 0 {
					many /= 2
				}
				for v := range many {
					f.second[i] = v
					check(t, f)
				}
			}
		}
	}
}

func TestChoice(t *testing.T) { // P9.1: index selection 0 and 1 of mode 4
	f := fields{mode: 4, ends: [6][4]int{{0, 0, 0, 0}, {31, 31, 31, 63}}}
	f.first = [16]int{0, 0, 1, 2, 3, 3}
	f.second = [16]int{0, 7, 1, 2, 0, 6}
	want := [2][6]api.Texel{
		{{0, 0, 0, 0}, {0, 0, 0, 255}, {84, 84, 84, 36}, {171, 171, 171, 72}, {255, 255, 255, 0}, {255, 255, 255, 219}},
		{{0, 0, 0, 0}, {255, 255, 255, 0}, {36, 36, 36, 84}, {72, 72, 72, 171}, {0, 0, 0, 255}, {219, 219, 219, 255}},
	}
	for choice := range 2 {
		f.choice = choice
		u, e := bcseven.Decode(build(t, f))
		if e != api.OK || [6]api.Texel(u[:6]) != want[choice] {
			t.Errorf("index selection %d: %v, %d", choice, u[:6], e)
		}
	}
	for seed := range 50 {
		for choice := range 2 {
			f := mixed(4, 0, seed)
			f.choice = choice
			check(t, f)
		}
	}
}

func TestTurnExamples(t *testing.T) { // P9.1: each rotation of modes 4 and 5
	for _, c := range []struct {
		mode, alpha int
		end         [4]int
	}{
		{4, 134, [4]int{0, 31, 8, 33}},
		{5, 132, [4]int{0, 127, 33, 132}},
	} {
		for turn, want := range []api.Texel{{0, 255, 66, c.alpha}, {c.alpha, 255, 66, 0}, {0, c.alpha, 66, 255}, {0, 255, c.alpha, 66}} {
			f := fields{mode: c.mode, turn: turn, ends: [6][4]int{c.end}}
			u, e := bcseven.Decode(build(t, f))
			if e != api.OK || u[0] != want || u[15] != want {
				t.Errorf("mode %d, rotation %d: %v, %d, not %v", c.mode, turn, u[0], e, want)
			}
		}
	}
}

func TestTurns(t *testing.T) { // P9.3: rotation exchanges two channels and does nothing else
	for _, mode := range []int{4, 5} {
		for seed := range 100 {
			f := mixed(mode, 0, seed)
			f.turn = 0
			plain, _ := bcseven.Decode(build(t, f))
			for turn := 1; turn <= 3; turn++ {
				f.turn = turn
				u, e := bcseven.Decode(build(t, f))
				for i, x := range u {
					x[turn-1], x[3] = x[3], x[turn-1]
					if e != api.OK || x != plain[i] {
						t.Errorf("%+v: texel %d is %v, without rotation %v, %d", f, i, u[i], plain[i], e)
					}
				}
			}
		}
	}
}

func TestEnds(t *testing.T) { // P9.2
	x := bcseven.Ends([2][4]int{{10, 20, 30, 127}, {100, 90, 80, 0}}, [2]int{0, 1})
	if x != [2]api.Texel{{20, 40, 60, 254}, {201, 181, 161, 1}} {
		t.Error(x)
	}
	for i := range 2 {
		for c := range 4 {
			for n := range 128 {
				for bits := range 4 {
					ends, more := [2][4]int{{1, 2, 3, 4}, {124, 125, 126, 127}}, [2]int{bits % 2, bits / 2}
					ends[i][c] = n
					for k, got := range bcseven.Ends(ends, more) {
						m := ends[k]
						if want := (api.Texel{2*m[0] + more[k], 2*m[1] + more[k], 2*m[2] + more[k], 2*m[3] + more[k]}); got != want {
							t.Fatalf("Ends(%v, %v)[%d] = %v, not %v", ends, more, k, got, want)
						}
					}
				}
			}
		}
	}
}

func TestEndsBeyond(t *testing.T) { // P9.2: of a number only the lowest 7 bits count, and of a p-bit the lowest one
	for _, n := range append([]int{-130, -129, 128, 129, 130, 255}, far...) {
		low, bit := ((n%128)+128)%128, ((n%2)+2)%2
		x := bcseven.Ends([2][4]int{{n, 5, n, 6}, {7, n, 8, n}}, [2]int{n, 1 - bit})
		first, second := 2*low+bit, 2*low+1-bit
		if x != [2]api.Texel{{first, 10 + bit, first, 12 + bit}, {15 - bit, second, 17 - bit, second}} {
			t.Errorf("Ends with %d: %v", n, x)
		}
	}
}

// sixteenths are the weights of mode 6.
var sixteenths = []int{0, 4, 9, 13, 17, 21, 26, 30, 34, 38, 43, 47, 51, 55, 60, 64}

func TestRamp(t *testing.T) { // P9.2
	l := bcseven.Ramp(api.Texel{0, 255, 10, 7}, api.Texel{255, 0, 11, 7})
	for i, want := range []int{0, 16, 36, 52, 68, 84, 104, 120, 135, 151, 171, 187, 203, 219, 239, 255} {
		if l[i][0] != want || l[i][3] != 7 || (l[i][2] == 11) != (i >= 8) {
			t.Errorf("Ramp: colour %d is %v", i, l[i])
		}
	}
	numbers := []int{0, 1, 2, 63, 100, 127, 128, 200, 254, 255}
	for _, a := range numbers {
		for _, b := range numbers {
			first, second := api.Texel{a, b, 255 - a, 9}, api.Texel{b, a, b, a}
			for i, x := range bcseven.Ramp(first, second) {
				for c, n := range x {
					if want := mix(first[c], second[c], sixteenths[i]); n != want {
						t.Fatalf("Ramp(%v, %v)[%d] = %v", first, second, i, x)
					}
				}
			}
		}
	}
}

func TestRampBeyond(t *testing.T) { // P9.2: texels below 0 and above 255
	numbers := []int{-1 << 20, -300, -255, -2, -1, 0, 255, 256, 300, 2047, 1 << 20}
	for _, a := range numbers {
		for _, b := range numbers {
			for i, x := range bcseven.Ramp(api.Texel{a, b, 0, 255}, api.Texel{b, a, a, b}) {
				w := sixteenths[i]
				down := func(n int) int { return int(math.Floor(float64(n+32) / 64)) }
				if x != (api.Texel{down(a*(64-w) + b*w), down(b*(64-w) + a*w), down(a * w), down(255*(64-w) + b*w)}) {
					t.Fatalf("Ramp of %d and %d: colour %d is %v", a, b, i, x)
				}
			}
		}
	}
}

func TestRampAtTheEnds(t *testing.T) { // P0: no number panics
	for _, a := range far {
		for _, b := range far {
			x := bcseven.Ramp(api.Texel{a, b, 1, 2}, api.Texel{b, a, 1, 3})
			if x[0][2] != 1 || x[15][2] != 1 || x[0][3] != 2 || x[15][3] != 3 {
				t.Errorf("Ramp of %d and %d: %v", a, b, x)
			}
		}
	}
}

func TestSixExamples(t *testing.T) { // P9.2
	for _, c := range []struct {
		name  string
		ends  [2][4]int
		more  [2]int
		which [16]int
		want  []byte
	}{
		{"all 0", [2][4]int{}, [2]int{}, [16]int{}, allBytes(64, 0)},
		{"all greatest", [2][4]int{{127, 127, 127, 127}, {127, 127, 127, 127}}, [2]int{1, 1}, [16]int(append([]int{7}, slices.Repeat([]int{15}, 15)...)), allBytes(192, 255)},
		{"red", [2][4]int{{127}, {}}, [2]int{}, [16]int{}, []byte{192, 63, 15: 0}},
		{"red of the second one", [2][4]int{{}, {127}}, [2]int{}, [16]int{}, []byte{64, 192, 31, 15: 0}},
		{"alpha of the second one", [2][4]int{{}, {0, 0, 0, 127}}, [2]int{}, [16]int{}, []byte{64, 7: 127, 15: 0}},
		{"p-bit of the first one", [2][4]int{}, [2]int{1, 0}, [16]int{}, []byte{64, 7: 128, 15: 0}},
		{"p-bit of the second one", [2][4]int{}, [2]int{0, 1}, [16]int{}, []byte{64, 8: 1, 15: 0}},
		{"indices", [2][4]int{}, [2]int{}, [16]int{7, 1, 2, 3, 15: 15}, []byte{64, 8: 0x1e, 9: 0x32, 15: 0xf0}},
	} {
		if b, e := bcseven.Six(c.ends, c.more, c.which); e != api.OK || !slices.Equal(b, c.want) {
			t.Errorf("%s: %v, %d, not %v", c.name, b, e, c.want)
		}
	}
}

func TestSix(t *testing.T) { // P9.2, P9.3: the block has these parts, and its texels are colours of the Ramp
	for seed := range 2000 {
		f := mixed(6, 0, seed)
		ends, more := [2][4]int(f.ends[:2]), [2]int(f.more[:2])
		checkSix(t, ends, more, f.first)
	}
	for _, n := range []int{0, 1, 64, 126, 127} {
		for bits := range 4 {
			checkSix(t, [2][4]int{{n, 127 - n, n, 0}, {127, 0, n, n}}, [2]int{bits % 2, bits / 2}, [16]int{0, 15, 0, 15, 8, 7})
		}
	}
	for i := range 16 {
		for v := range 16 {
			which := alike(v / 2)
			if i > 0 {
				which[i] = v
			}
			checkSix(t, [2][4]int{{0, 127, 5, 6}, {127, 0, 100, 127}}, [2]int{1, 0}, which)
		}
	}
}

func checkSix(t *testing.T, ends [2][4]int, more [2]int, which [16]int) {
	t.Helper()
	b, e := bcseven.Six(ends, more, which)
	f := fields{mode: 6, first: which}
	copy(f.ends[:], ends[:])
	copy(f.more[:], more[:])
	if want := build(t, f); e != api.OK || !slices.Equal(b, want) {
		t.Errorf("Six(%v, %v, %v) = %v, %d, not %v", ends, more, which, b, e, want)
	}
	if n := bcseven.Mode(b); n != 6 {
		t.Errorf("Six(%v, %v, %v) is of mode %d", ends, more, which, n)
	}
	x := bcseven.Ends(ends, more)
	ramp := bcseven.Ramp(x[0], x[1])
	u, e := bcseven.Decode(b)
	for i := range u {
		if e != api.OK || u[i] != ramp[which[i]] {
			t.Errorf("Six(%v, %v, %v): texel %d is %v, not %v, %d", ends, more, which, i, u[i], ramp[which[i]], e)
		}
	}
}

func TestWrongSix(t *testing.T) { // P9.2, R1
	wrong := func(name string, ends [2][4]int, more [2]int, which [16]int) {
		t.Helper()
		if b, e := bcseven.Six(ends, more, which); len(b) != 0 || e != api.ErrArg {
			t.Errorf("%s: Six(%v, %v, %v) = %v, %d", name, ends, more, which, b, e)
		}
	}
	for i := range 2 {
		for c := range 4 {
			for _, n := range append([]int{128, 129, 255}, far...) {
				ends := [2][4]int{{0, 127, 1, 2}, {3, 4, 126, 127}}
				ends[i][c] = n
				wrong("number", ends, [2]int{0, 1}, [16]int{3, 15})
			}
		}
		for _, n := range append([]int{2, 3, 128}, far...) {
			more := [2]int{1, 1}
			more[i] = n
			wrong("p-bit", [2][4]int{{0, 127}}, more, [16]int{3, 15})
		}
	}
	for i := range 16 {
		for _, n := range append([]int{16, 17, 31, 128}, far...) {
			which := alike(3)
			which[i] = n
			wrong("index", [2][4]int{{0, 127}}, [2]int{1, 0}, which)
		}
	}
	for n := 8; n < 16; n++ {
		wrong("first index", [2][4]int{{0, 127}}, [2]int{1, 0}, [16]int{n, 8})
	}
	for _, n := range far {
		wrong("all", [2][4]int{{n, n, n, n}, {n, n, n, n}}, [2]int{n, n}, alike(n))
	}
}

func TestNothingShared(t *testing.T) { // R3
	long := slices.Repeat([]byte{0x5b}, 48)
	for first := range 256 {
		b := long[16:32]
		b[0] = byte(first)
		kept := slices.Clone(long)
		one, _ := bcseven.Decode(b)
		two, _ := bcseven.Decode(b)
		bcseven.Mode(b)
		if !slices.Equal(long, kept) || one != two {
			t.Errorf("first byte %d: %v has become %v", first, kept, long)
		}
	}
	ends, more, which := [2][4]int{{1, 2, 3, 4}, {5, 6, 7, 8}}, [2]int{0, 1}, [16]int{1, 9, 15}
	first, _ := bcseven.Six(ends, more, which)
	second, _ := bcseven.Six(ends, more, which)
	kept := slices.Clone(second)
	clear(first)
	if !slices.Equal(second, kept) {
		t.Errorf("Six's answers share memory: %v has become %v", kept, second)
	}
	if ends != [2][4]int{{1, 2, 3, 4}, {5, 6, 7, 8}} || more != [2]int{0, 1} || which != [16]int{1, 9, 15} {
		t.Error(ends, more, which)
	}
}

func TestManyAtOnce(t *testing.T) { // R4, R5
	var blocks [][]byte
	var tiles []api.Tile
	for mode := range 8 {
		for seed := range 20 {
			f := mixed(mode, seed%(1<<bctable.Modes()[mode].Ways), seed)
			blocks, tiles = append(blocks, build(t, f)), append(tiles, tileOf(f))
		}
	}
	ends, more, which := [2][4]int{{1, 2, 3, 4}, {100, 90, 80, 70}}, [2]int{1, 0}, [16]int{7, 15, 1}
	six, _ := bcseven.Six(ends, more, which)
	var all sync.WaitGroup
	for range 8 {
		all.Go(func() {
			for i, b := range blocks {
				if u, e := bcseven.Decode(b); e != api.OK || u != tiles[i] || bcseven.Mode(b) != i/20 {
					t.Errorf("block %d: %v, %d", i, u, e)
				}
				if c, e := bcseven.Six(ends, more, which); e != api.OK || !slices.Equal(c, six) {
					t.Errorf("Six: %v, %d", c, e)
				}
				if x := bcseven.Ends(ends, more); bcseven.Ramp(x[0], x[1])[15] != x[1] {
					t.Error(x)
				}
			}
		})
	}
	all.Wait()
}
