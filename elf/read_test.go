package elf_test

import (
	"encoding/binary"
	"fmt"
	"math"
	"strings"
	"testing"

	"marline/api"
	"marline/elf"
)

// badHead is a file whose head isn't as said.
func badHead(s string) string {
	return patched(s, 0, "x")
}

// manySegs is a file that says that it has n segments.
func manySegs(s string, n uint64) string {
	return patched(s, 56, number(n, 2))
}

// TestRead: P4.1, the images of files that are as said.
func TestRead(t *testing.T) {
	for _, x := range goodImages() {
		expectRead(t, x.why, fileOf(x.x), x.x, api.OK)
	}
}

// TestReadShort: P4.1, fewer than 64 bytes: ErrMore, ahead of what they are.
func TestReadShort(t *testing.T) {
	expectNone(t, "nothing", "", api.ErrMore)
	for _, s := range []string{fileOf(twoSegs()), badHead(fileOf(twoSegs())), manySegs(fileOf(twoSegs()), 5), strings.Repeat("\xff", 64)} {
		for n := range 64 {
			expectNone(t, fmt.Sprint(n, " bytes"), s[:n], api.ErrMore)
		}
	}
}

// TestReadHead: P4.1, each bit of the 64 bytes that isn't as said: ErrForm, but for Entry and how many segments.
func TestReadHead(t *testing.T) {
	x := twoSegs()
	s := fileOf(x)
	for i := range 64 {
		for bit := range 8 {
			why := fmt.Sprintf("byte %d, bit %d", i, bit)
			k := patched(s, i, string([]byte{s[i] ^ 1<<bit}))
			switch {
			case 24 <= i && i < 32:
				y := x
				y.Entry ^= 1 << (8*(i-24) + bit)
				if elf.May(y) {
					expectRead(t, why, k, y, api.OK)
				} else {
					expectNone(t, why, k, api.ErrForm)
				}
			case i == 56 || i == 57:
				n := 2 ^ 1<<(8*(i-56)+bit)
				switch {
				case n > 4:
					expectNone(t, why, k, api.ErrBig)
				default: // none, or a third one, which what follows tells nothing of
					expectNone(t, why, k, api.ErrForm)
				}
			default:
				expectNone(t, why, k, api.ErrForm)
				expectNone(t, why+", no more than that", k[:64], api.ErrForm)
				expectNone(t, why+", too many segments", manySegs(k, 5), api.ErrForm)
			}
		}
	}
}

// TestReadNumbers: P4.1, other files of the format: of another class, order, type, machine, version, or with sections.
func TestReadNumbers(t *testing.T) {
	s := fileOf(twoSegs())
	for why, k := range map[string]string{
		"32 bits":             patched(s, 4, "\x01"),
		"the highest first":   patched(s, 5, "\x02"),
		"of a system":         patched(s, 7, "\x03"),
		"not executable":      patched(s, 16, number(1, 2)),
		"may be anywhere":     patched(s, 16, number(3, 2)),
		"another machine":     patched(s, 18, number(62, 2)),
		"another version":     patched(s, 20, number(0, 4)),
		"segments elsewhere":  patched(s, 32, number(120, 8)),
		"sections":            patched(s, 40, number(256, 8)),
		"flags":               patched(s, 48, number(5, 4)),
		"another head's size": patched(s, 52, number(52, 2)),
		"another size":        patched(s, 54, number(32, 2)),
		"a section's size":    patched(s, 58, number(64, 2)),
		"some sections":       patched(s, 60, number(1, 2)),
		"names of sections":   patched(s, 62, number(1, 2)),
	} {
		expectNone(t, why, k, api.ErrForm)
	}
}

// TestReadCount: P4.1, above MaxSegs segments: ErrBig, ahead of what follows; none: an image that may not be.
func TestReadCount(t *testing.T) {
	s := fileOf(fourSegs())
	for _, n := range []uint64{5, 6, 8, 255, 256, 257, 260, 1 << 15, 65535} {
		why := fmt.Sprint(n, " segments")
		expectNone(t, why, manySegs(s, n), api.ErrBig)
		expectNone(t, why+", a bare head", manySegs(s, n)[:64], api.ErrBig)
		expectNone(t, why+", of which none is as said", manySegs(patched(s, 64, strings.Repeat("\xff", 224)), n), api.ErrBig)
	}
	expectNone(t, "no segments", manySegs(s, 0), api.ErrForm)
	expectNone(t, "no segments, a bare head", manySegs(s, 0)[:64], api.ErrForm)
}

// TestReadTold: P4.1, fewer than 56 bytes for each segment: ErrMore, ahead of what they are.
func TestReadTold(t *testing.T) {
	one, two, four := oneImage(256, 9, 9), twoSegs(), fourSegs()
	for _, x := range []api.Image{one, two, four} {
		s := fileOf(x)
		wrong := patched(s, 64, strings.Repeat("\xff", 56*len(x.Segs)))
		for n := 64; n < segAt(len(x.Segs)); n++ {
			why := fmt.Sprintf("%d bytes of %d segments", n, len(x.Segs))
			expectNone(t, why, s[:n], api.ErrMore)
			expectNone(t, why+", not as said", wrong[:n], api.ErrMore)
		}
		expectNone(t, fmt.Sprintf("all that is told of %d segments, not as said", len(x.Segs)), wrong[:segAt(len(x.Segs))], api.ErrForm)
	}
}

// TestReadSeg: P4.1, each bit of a segment's first number, its places, its last number.
func TestReadSeg(t *testing.T) {
	x := fourSegs()
	s := fileOf(x)
	for i := range x.Segs {
		for at := range 56 {
			for bit := range 8 {
				k := patched(s, segAt(i)+at, string([]byte{s[segAt(i)+at] ^ 1<<bit}))
				y := asTold(k)
				why := fmt.Sprintf("segment %d, byte %d, bit %d", i, at, bit)
				switch {
				case at < 4, 16 <= at && at < 32, 48 <= at:
					expectNone(t, why, k, api.ErrForm)
				case y == nil:
					expectNone(t, why, k, api.ErrMore)
				case !elf.May(*y):
					expectNone(t, why, k, api.ErrForm)
				default:
					expectRead(t, why, k, *y, api.OK)
				}
			}
		}
	}
}

// asTold is the image of what a file tells of its segments, or nothing, if some Data is cut off.
func asTold(s string) *api.Image {
	le, b := binary.LittleEndian, []byte(s)
	x := api.Image{Entry: le.Uint64(b[24:])}
	for i := range int(b[56]) {
		k := b[segAt(i):]
		from, n := le.Uint64(k[8:]), le.Uint64(k[32:])
		var data []byte
		for ; n > 0; n-- {
			if from >= uint64(len(b)) {
				return nil
			}
			data = append(data, b[from])
			from++
		}
		x.Segs = append(x.Segs, api.Seg{At: le.Uint64(k[16:]), Perm: int(le.Uint32(k[4:])), Data: string(data), Size: le.Uint64(k[40:])})
	}
	return &x
}

// TestReadData: P4.1, Data that is cut off: ErrMore; whole numbers of any size tell where it ends.
func TestReadData(t *testing.T) {
	for _, x := range goodImages() {
		s := fileOf(x.x)
		last := x.x.Segs[len(x.x.Segs)-1]
		from := len(s) - len(last.Data)
		for n := from; n < len(s); n += 1 + (len(s)-from)/100 {
			expectNone(t, fmt.Sprintf("%s: %d bytes of %d", x.why, n, len(s)), s[:n], api.ErrMore)
		}
	}
	s := fileOf(oneImage(256, 100, 100))
	whole := uint64(len(s))
	for _, k := range []struct{ from, n uint64 }{
		{256, 101}, {257, 100}, {whole, 1}, {whole - 1, 2}, {whole + 1, 1}, {0, whole + 1}, {1 << 32, 1}, {1<<32 + 256, 100},
		{math.MaxUint64, 1}, {math.MaxUint64, 2}, {math.MaxUint64, 100}, {math.MaxUint64 - 99, 100}, {math.MaxUint64 - 50, 100},
		{1, math.MaxUint64}, {2, math.MaxUint64}, {256, math.MaxUint64}, {256, math.MaxUint64 - 255}, {256, math.MaxUint64 - 200}, {1 << 63, 1 << 63}, {256, 1 << 63},
	} {
		cutOff := patched(patched(s, segAt(0)+8, number(k.from, 8)), segAt(0)+32, number(k.n, 8))
		expectNone(t, fmt.Sprintf("Data of %d at %d", k.n, k.from), cutOff, api.ErrMore)
	}
}

// TestReadElsewhere: P4.1, Data is where the file says that it stands, whatever else is there.
func TestReadElsewhere(t *testing.T) {
	x := oneImage(256, 100, 300)
	s := fileOf(x)
	for _, k := range []struct{ from, n int }{{0, 100}, {1, 64}, {64, 56}, {120, 136}, {200, 100}, {256, 99}, {300, 56}, {355, 1}, {56, 300}} {
		moved := patched(patched(s, segAt(0)+8, number(uint64(k.from), 8)), segAt(0)+32, number(uint64(k.n), 8))
		want := withSeg(x, 0, func(g *api.Seg) { g.Data = moved[k.from : k.from+k.n] })
		expectRead(t, fmt.Sprintf("Data of %d at %d", k.n, k.from), moved, want, api.OK)
	}
	none := withSeg(x, 0, func(g *api.Seg) { g.Data = "" })
	for _, from := range []uint64{0, 1, 256, 355, 356, 357, 1 << 32, math.MaxUint64} {
		moved := patched(patched(s, segAt(0)+8, number(from, 8)), segAt(0)+32, number(0, 8))
		expectRead(t, fmt.Sprintf("no Data at %d", from), moved, none, api.OK)
	}
	two := twoSegs()
	one := patched(fileOf(two), segAt(1)+8, number(256, 8))
	expectRead(t, "two of the same Data", one, withSeg(two, 1, func(g *api.Seg) { g.Data = two.Segs[0].Data[:10] }), api.OK)
}

// TestReadMayNot: P4.1, files as said, whose image may not be: ErrForm.
func TestReadMayNot(t *testing.T) {
	for _, x := range badImages() {
		want := api.ErrForm
		if len(x.x.Segs) > 4 {
			want = api.ErrBig
		}
		// Four bytes tell Perm: what they can't hold is none.
		if y := asTold(fileOf(x.x)); len(x.x.Segs) > 0 && elf.May(*y) {
			continue
		}
		expectNone(t, x.why, fileOf(x.x), want)
	}
}

// TestReadOrder: P4.1, where several errors apply, the first one of them is told; segments are in order.
func TestReadOrder(t *testing.T) {
	x := fourSegs()
	s := fileOf(x)
	kind := func(s string, i int) string { return patched(s, segAt(i), number(2, 4)) }
	place := func(s string, i int) string { return patched(s, segAt(i)+24, number(768, 8)) }
	last := func(s string, i int) string { return patched(s, segAt(i)+48, number(4096, 8)) }
	more := func(s string, i int) string { return patched(s, segAt(i)+32, number(1<<20, 8)) }
	mayNot := func(s string, i int) string { return patched(s, segAt(i)+4, number(7, 4)) }
	for name, wrong := range map[string]func(string, int) string{"kind": kind, "place": place, "last": last} {
		for i := range x.Segs {
			for j := range x.Segs {
				want := api.ErrForm
				if j < i {
					want = api.ErrMore
				}
				expectNone(t, fmt.Sprintf("%s of %d, Data of %d", name, i, j), more(wrong(s, i), j), want)
				expectNone(t, fmt.Sprintf("Data of %d, and %d may not be", i, j), mayNot(more(s, i), j), api.ErrMore)
			}
			why := fmt.Sprintf("%s of %d", name, i)
			expectNone(t, why+", a bad head", badHead(wrong(s, i)), api.ErrForm)
			expectNone(t, why+", too many segments", manySegs(wrong(s, i), 5), api.ErrBig)
			expectNone(t, why+", cut off", wrong(s, i)[:segAt(4)-1], api.ErrMore)
			want := api.ErrMore // of the first segment
			if i == 0 {
				want = api.ErrForm
			}
			expectNone(t, why+", no Data", wrong(s, i)[:segAt(4)], want)
		}
	}
}

// TestReadBehind: P4.1, bytes behind the last Data, and between, are nobody's.
func TestReadBehind(t *testing.T) {
	for _, x := range goodImages() {
		s := fileOf(x.x)
		for _, behind := range []string{"\x00", "x", strings.Repeat("\x00", 256), strings.Repeat("\xff", 1000), s} {
			expectRead(t, fmt.Sprintf("%s, %d bytes behind", x.why, len(behind)), s+behind, x.x, api.OK)
		}
	}
	s := fileOf(twoSegs())
	for _, at := range []int{segAt(2), 255, 556, 767} {
		expectRead(t, fmt.Sprint("no nought at ", at), patched(s, at, "x"), twoSegs(), api.OK)
	}
}

// TestReadApart: R3, images that are read share no list.
func TestReadApart(t *testing.T) {
	s := fileOf(twoSegs())
	x, _ := elf.Read(s)
	y, _ := elf.Read(s)
	x.Segs[0], x.Segs[1] = api.Seg{}, api.Seg{}
	if !equal(y, twoSegs()) {
		t.Errorf("what was read before was changed: %s", told(y))
	}
	expectRead(t, "read again", s, twoSegs(), api.OK)
}
