package bctable_test

import (
	"math"
	"slices"
	"strings"
	"sync"
	"testing"

	"swatch/bctable"
)

// ways are the partitions into two subsets, and those into three.
const ways = 64

// twos are the partitions into two subsets, as rows of each texel's subset.
var twos = []string{
	"0011/0011/0011/0011", "0001/0001/0001/0001", "0111/0111/0111/0111", "0001/0011/0011/0111",
	"0000/0001/0001/0011", "0011/0111/0111/1111", "0001/0011/0111/1111", "0000/0001/0011/0111",
	"0000/0000/0001/0011", "0011/0111/1111/1111", "0000/0001/0111/1111", "0000/0000/0001/0111",
	"0001/0111/1111/1111", "0000/0000/1111/1111", "0000/1111/1111/1111", "0000/0000/0000/1111",
	"0000/1000/1110/1111", "0111/0001/0000/0000", "0000/0000/1000/1110", "0111/0011/0001/0000",
	"0011/0001/0000/0000", "0000/1000/1100/1110", "0000/0000/1000/1100", "0111/0011/0011/0001",
	"0011/0001/0001/0000", "0000/1000/1000/1100", "0110/0110/0110/0110", "0011/0110/0110/1100",
	"0001/0111/1110/1000", "0000/1111/1111/0000", "0111/0001/1000/1110", "0011/1001/1001/1100",
	"0101/0101/0101/0101", "0000/1111/0000/1111", "0101/1010/0101/1010", "0011/0011/1100/1100",
	"0011/1100/0011/1100", "0101/0101/1010/1010", "0110/1001/0110/1001", "0101/1010/1010/0101",
	"0111/0011/1100/1110", "0001/0011/1100/1000", "0011/0010/0100/1100", "0011/1011/1101/1100",
	"0110/1001/1001/0110", "0011/1100/1100/0011", "0110/0110/1001/1001", "0000/0110/0110/0000",
	"0100/1110/0100/0000", "0010/0111/0010/0000", "0000/0010/0111/0010", "0000/0100/1110/0100",
	"0110/1100/1001/0011", "0011/0110/1100/1001", "0110/0011/1001/1100", "0011/1001/1100/0110",
	"0110/1100/1100/1001", "0110/0011/0011/1001", "0111/1110/1000/0001", "0001/1000/1110/0111",
	"0000/1111/0011/0011", "0011/0011/1111/0000", "0010/0010/1110/1110", "0100/0100/0111/0111",
}

// threes are the partitions into three subsets, as rows of each texel's subset.
var threes = []string{
	"0011/0011/0221/2222", "0001/0011/2211/2221", "0000/2001/2211/2211", "0222/0022/0011/0111",
	"0000/0000/1122/1122", "0011/0011/0022/0022", "0022/0022/1111/1111", "0011/0011/2211/2211",
	"0000/0000/1111/2222", "0000/1111/1111/2222", "0000/1111/2222/2222", "0012/0012/0012/0012",
	"0112/0112/0112/0112", "0122/0122/0122/0122", "0011/0112/1122/1222", "0011/2001/2200/2220",
	"0001/0011/0112/1122", "0111/0011/2001/2200", "0000/1122/1122/1122", "0022/0022/0022/1111",
	"0111/0111/0222/0222", "0001/0001/2221/2221", "0000/0011/0122/0122", "0000/1100/2210/2210",
	"0122/0122/0011/0000", "0012/0012/1122/2222", "0110/1221/1221/0110", "0000/0110/1221/1221",
	"0022/1102/1102/0022", "0110/0110/2002/2222", "0011/0122/0122/0011", "0000/2000/2211/2221",
	"0000/0002/1122/1222", "0222/0022/0012/0011", "0011/0012/0022/0222", "0120/0120/0120/0120",
	"0000/1111/2222/0000", "0120/1201/2012/0120", "0120/2012/1201/0120", "0011/2200/1122/0011",
	"0011/1122/2200/0011", "0101/0101/2222/2222", "0000/0000/2121/2121", "0022/1122/0022/1122",
	"0022/0011/0022/0011", "0220/1221/0220/1221", "0101/2222/2222/0101", "0000/2121/2121/2121",
	"0101/0101/0101/2222", "0222/0111/0222/0111", "0002/1112/0002/1112", "0000/2112/2112/2112",
	"0222/0111/0111/0222", "0002/1112/1112/0002", "0110/0110/0110/2222", "0000/0000/2112/2112",
	"0110/0110/2222/2222", "0022/0011/0011/0022", "0022/1122/1122/0022", "0000/0000/0000/2112",
	"0002/0001/0002/0001", "0222/1222/0222/1222", "0101/2222/2222/2222", "0111/2011/2201/2220",
}

// anchors are, by the number of subsets and the subset, the anchors of all partitions, as hexadecimal digits.
var anchors = map[[2]int]string{
	{2, 1}: "fffffffffffffffff282288f28228822ff6828ff28222ff66268ff22fffff22f",
	{3, 1}: "33ff83ff88666533338f336a588685ff8f356a8ff3f5ffff3f55585a5a8dfc33",
	{3, 2}: "f883ff38fffffff8f8f3f8f83f6affa8f3faa89a6f8f3668f3ffffffffff3ff8",
}

// modes are what Modes should answer.
var modes = []bctable.Mode{
	{Parts: 3, Ways: 4, Colour: 4, Each: 1, First: 3},
	{Parts: 2, Ways: 6, Colour: 6, Both: 1, First: 3},
	{Parts: 3, Ways: 6, Colour: 5, First: 2},
	{Parts: 2, Ways: 6, Colour: 7, Each: 1, First: 2},
	{Parts: 1, Turns: 2, Choice: 1, Colour: 5, Alpha: 6, First: 2, Second: 3},
	{Parts: 1, Turns: 2, Colour: 7, Alpha: 8, First: 2, Second: 2},
	{Parts: 1, Colour: 7, Alpha: 7, Each: 1, First: 4},
	{Parts: 2, Ways: 6, Colour: 5, Alpha: 5, Each: 1, First: 2},
}

// weights are what Weights should answer, by the number of bits.
var weights = map[int][]int{
	2: {0, 21, 43, 64},
	3: {0, 9, 18, 27, 37, 46, 55, 64},
	4: {0, 4, 9, 13, 17, 21, 26, 30, 34, 38, 43, 47, 51, 55, 60, 64},
}

// far are numbers at the ends of the range of int, and numbers of which some low bits are those of small ones.
var far = []int{math.MinInt, math.MinInt + 1, math.MinInt + 2, math.MinInt + 3, -1 << 32, -1<<32 + 2, -1 << 16, -256, -254, 256, 257, 258, 259, 1 << 16, 1<<16 + 1, 1 << 32, 1<<32 + 1, 1<<32 + 2, 1<<32 + 3, math.MaxInt - 1, math.MaxInt}

// wrongParts, wrongWays and wrongTexels are numbers of no subsets, of no partition and of no texel.
var (
	wrongParts  = append([]int{-3, -2, -1, 0, 1, 4, 5, 6, 7, 8, 16}, far...)
	wrongWays   = append([]int{-64, -63, -2, -1, 64, 65, 127, 128}, far...)
	wrongTexels = append([]int{-16, -15, -2, -1, 16, 17, 31, 32, 63, 64}, far...)
)

// pictures are the partitions into two and into three subsets: a digit for each texel, row by row.
func pictures() map[int][]string {
	all := map[int][]string{2: nil, 3: nil}
	for way := range ways {
		all[2] = append(all[2], strings.ReplaceAll(twos[way], "/", ""))
		all[3] = append(all[3], strings.ReplaceAll(threes[way], "/", ""))
	}
	return all
}

// anchor is what Anchor should answer.
func anchor(parts, way, part int) int {
	return strings.IndexByte("0123456789abcdef", anchors[[2]int{parts, part}][way])
}

// fields are the ten numbers of a mode, in order.
func fields(m bctable.Mode) [10]int {
	return [10]int{m.Parts, m.Ways, m.Turns, m.Choice, m.Colour, m.Alpha, m.Each, m.Both, m.First, m.Second}
}

func TestExpectedTables(t *testing.T) { // that what the tests below expect is whole
	if len(twos) != ways || len(threes) != ways {
		t.Fatal(len(twos), len(threes))
	}
	for parts, all := range pictures() {
		for way, picture := range all {
			if len(picture) != 16 {
				t.Errorf("partition %d into %d: %d texels", way, parts, len(picture))
			}
		}
	}
	for of, all := range anchors {
		if len(all) != ways {
			t.Errorf("anchors of %v: %d", of, len(all))
		}
	}
}

func TestModes(t *testing.T) { // P8.1
	l := bctable.Modes()
	if len(l) != len(modes) {
		t.Fatalf("%d modes", len(l))
	}
	for i, m := range l {
		for k, n := range fields(m) {
			if n != fields(modes[i])[k] {
				t.Errorf("mode %d: number %d is %d, not %d", i, k, n, fields(modes[i])[k])
			}
		}
	}
}

func TestWeights(t *testing.T) { // P8.1
	for bits, want := range weights {
		if l := bctable.Weights(bits); !slices.Equal(l, want) {
			t.Errorf("Weights(%d) = %v, not %v", bits, l, want)
		}
	}
}

func TestWrongWeights(t *testing.T) { // P8.1
	for _, bits := range append([]int{-4, -3, -2, -1, 0, 1, 5, 6, 7, 8, 16}, far...) {
		if l := bctable.Weights(bits); len(l) != 0 {
			t.Errorf("Weights(%d) = %v", bits, l)
		}
	}
}

func TestPart(t *testing.T) { // P8.2
	for parts, all := range pictures() {
		for way, picture := range all {
			for texel, digit := range picture {
				if n := bctable.Part(parts, way, texel); n != int(digit-'0') {
					t.Errorf("Part(%d, %d, %d) = %d, not %c", parts, way, texel, n, digit)
				}
			}
		}
	}
}

func TestPartExamples(t *testing.T) { // P8.2
	for c, want := range map[[3]int]int{
		{2, 0, 0}: 0, {2, 0, 1}: 0, {2, 0, 2}: 1, {2, 0, 3}: 1, {2, 0, 15}: 1,
		{2, 13, 7}: 0, {2, 13, 8}: 1, {2, 17, 1}: 1, {2, 17, 2}: 1, {2, 17, 8}: 0,
		{2, 63, 1}: 1, {2, 63, 4}: 0, {2, 63, 14}: 1, {2, 63, 15}: 1,
		{3, 0, 2}: 1, {3, 0, 8}: 0, {3, 0, 9}: 2, {3, 0, 10}: 2, {3, 0, 11}: 1, {3, 0, 15}: 2,
		{3, 63, 0}: 0, {3, 63, 1}: 1, {3, 63, 3}: 1, {3, 63, 12}: 2, {3, 63, 15}: 0,
	} {
		if n := bctable.Part(c[0], c[1], c[2]); n != want {
			t.Errorf("Part(%d, %d, %d) = %d, not %d", c[0], c[1], c[2], n, want)
		}
	}
}

func TestWrongParts(t *testing.T) { // P8.2: a number of subsets, a partition or a texel that is none
	for _, parts := range wrongParts {
		for way := range ways {
			for texel := range 16 {
				if n := bctable.Part(parts, way, texel); n != 0 {
					t.Errorf("Part(%d, %d, %d) = %d", parts, way, texel, n)
				}
			}
		}
	}
	for _, parts := range []int{2, 3} {
		for _, way := range wrongWays {
			for texel := range 16 {
				if n := bctable.Part(parts, way, texel); n != 0 {
					t.Errorf("Part(%d, %d, %d) = %d", parts, way, texel, n)
				}
			}
		}
		for way := range ways {
			for _, texel := range wrongTexels {
				if n := bctable.Part(parts, way, texel); n != 0 {
					t.Errorf("Part(%d, %d, %d) = %d", parts, way, texel, n)
				}
			}
		}
	}
}

func TestAnchor(t *testing.T) { // P8.2
	for of := range anchors {
		for way := range ways {
			if n := bctable.Anchor(of[0], way, of[1]); n != anchor(of[0], way, of[1]) {
				t.Errorf("Anchor(%d, %d, %d) = %d, not %d", of[0], way, of[1], n, anchor(of[0], way, of[1]))
			}
		}
	}
}

func TestAnchorExamples(t *testing.T) { // P8.2
	for c, want := range map[[3]int]int{
		{2, 0, 1}: 15, {2, 16, 1}: 15, {2, 17, 1}: 2, {2, 18, 1}: 8, {2, 34, 1}: 6, {2, 63, 1}: 15,
		{3, 0, 1}: 3, {3, 0, 2}: 15, {3, 1, 2}: 8, {3, 13, 1}: 5, {3, 23, 1}: 10, {3, 38, 2}: 9,
		{3, 59, 1}: 13, {3, 61, 1}: 12, {3, 62, 1}: 3, {3, 62, 2}: 15, {3, 63, 1}: 3, {3, 63, 2}: 8,
	} {
		if n := bctable.Anchor(c[0], c[1], c[2]); n != want {
			t.Errorf("Anchor(%d, %d, %d) = %d, not %d", c[0], c[1], c[2], n, want)
		}
	}
}

func TestWrongAnchors(t *testing.T) { // P8.2: a number of subsets, a subset or a partition that is none
	all := append([]int{2, 3}, wrongParts...)
	for _, parts := range all {
		for _, part := range all {
			for way := range ways {
				if _, ok := anchors[[2]int{parts, part}]; ok {
					continue
				}
				if n := bctable.Anchor(parts, way, part); n != 0 {
					t.Errorf("Anchor(%d, %d, %d) = %d", parts, way, part, n)
				}
			}
		}
	}
	for of := range anchors {
		for _, way := range wrongWays {
			if n := bctable.Anchor(of[0], way, of[1]); n != 0 {
				t.Errorf("Anchor(%d, %d, %d) = %d", of[0], way, of[1], n)
			}
		}
	}
}

func TestAllWrong(t *testing.T) { // P0, P8.2: numbers at the ends of int, all at once
	for _, a := range far {
		for _, b := range far {
			for _, c := range far {
				if p, n := bctable.Part(a, b, c), bctable.Anchor(a, b, c); p != 0 || n != 0 {
					t.Fatalf("Part(%d, %d, %d) = %d, Anchor is %d", a, b, c, p, n)
				}
			}
		}
	}
}

func TestAnchorsInTheirSubsets(t *testing.T) { // the anchor of each subset is one of its texels, and subset 0's is texel 0
	for of := range anchors {
		for way := range ways {
			if n := bctable.Part(of[0], way, bctable.Anchor(of[0], way, of[1])); n != of[1] {
				t.Errorf("the anchor of subset %d of %d, partition %d, belongs to subset %d", of[1], of[0], way, n)
			}
			if n := bctable.Part(of[0], way, 0); n != 0 {
				t.Errorf("partition %d into %d: texel 0 belongs to subset %d", way, of[0], n)
			}
		}
	}
}

func TestModesUseAllBits(t *testing.T) { // P8.3
	for i, m := range bctable.Modes() {
		bits := i + 1
		bits += m.Ways + m.Turns + m.Choice
		bits += 2 * m.Parts * (3*m.Colour + m.Alpha)
		bits += 2*m.Parts*m.Each + m.Parts*m.Both
		bits += 16*m.First - m.Parts
		if m.Second != 0 {
			bits += 16*m.Second - 1
		}
		if bits != 128 {
			t.Errorf("mode %d uses %d bits", i, bits)
		}
	}
}

func TestWeightsTurned(t *testing.T) { // P8.3
	for bits := 2; bits <= 4; bits++ {
		l := bctable.Weights(bits)
		if len(l) != 1<<bits || l[0] != 0 || l[len(l)-1] != 64 {
			t.Fatalf("Weights(%d) = %v", bits, l)
		}
		for i, n := range l {
			if i > 0 && n <= l[i-1] {
				t.Errorf("Weights(%d): %d does not exceed %d", bits, n, l[i-1])
			}
			if n+l[len(l)-1-i] != 64 {
				t.Errorf("Weights(%d): %d and %d are not 64 together", bits, n, l[len(l)-1-i])
			}
		}
	}
}

func TestModesHaveWeights(t *testing.T) { // each mode's indices have weights, and its partition numbers are told by its bits
	for i, m := range bctable.Modes() {
		if len(bctable.Weights(m.First)) == 0 || m.Second != 0 && len(bctable.Weights(m.Second)) == 0 {
			t.Errorf("mode %d has indices without weights", i)
		}
		if (m.Parts == 1) != (m.Ways == 0) || 1<<m.Ways > ways {
			t.Errorf("mode %d: %d bits for partitions into %d", i, m.Ways, m.Parts)
		}
	}
}

func TestNothingShared(t *testing.T) { // R3
	kept := bctable.Modes()
	for i := range kept {
		kept[i] = bctable.Mode{Parts: -1, Second: 99}
	}
	_ = append(kept[:0], bctable.Mode{Ways: 77})
	if l := bctable.Modes(); !slices.Equal(l, modes) {
		t.Errorf("Modes() = %v after a caller wrote into an earlier answer", l)
	}
	for bits, want := range weights {
		first, second := bctable.Weights(bits), bctable.Weights(bits)
		for i := range first {
			first[i] = -1
		}
		_ = append(first[:1], 99)
		if l := bctable.Weights(bits); !slices.Equal(l, want) || !slices.Equal(second, want) {
			t.Errorf("Weights(%d) = %v, %v after a caller wrote into an earlier answer", bits, l, second)
		}
	}
}

func TestManyAtOnce(t *testing.T) { // R4, R5
	var all sync.WaitGroup
	for range 8 {
		all.Go(func() {
			for range 50 {
				if l := bctable.Modes(); !slices.Equal(l, modes) {
					t.Error(l)
				} else {
					clear(l)
				}
				for bits, want := range weights {
					if l := bctable.Weights(bits); !slices.Equal(l, want) {
						t.Error(l)
					} else {
						clear(l)
					}
				}
				for of := range anchors {
					for way := range ways {
						if n := bctable.Part(of[0], way, bctable.Anchor(of[0], way, of[1])); n != of[1] {
							t.Error(of, way, n)
						}
					}
				}
			}
		})
	}
	all.Wait()
}
