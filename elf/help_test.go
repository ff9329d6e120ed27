package elf_test

import (
	"encoding/binary"
	"fmt"
	"math"
	"slices"
	"strings"
	"testing"

	"marline/api"
	"marline/elf"
)

const (
	readRuns  = api.PR | api.PX
	readWrite = api.PR | api.PW

	lastAt uint64 = 1<<40 - 256 // the last place at which a segment may begin
)

// row is a row's next number: each row of them is always the same.
type row uint64

// below is a number below n.
func (r *row) below(n int) int {
	*r = *r*6364136223846793005 + 1442695040888963407
	return int(uint64(*r>>33) % uint64(n))
}

// someBytes are n bytes, no nought among them, that tell where they are.
func someBytes(n int) string {
	data := make([]byte, n)
	for i := range data {
		data[i] = byte(i%251) + 1
	}
	return string(data)
}

// oneSeg is a segment whose Data are n such bytes.
func oneSeg(at uint64, perm int, n int, size uint64) api.Seg {
	return api.Seg{At: at, Perm: perm, Data: someBytes(n), Size: size}
}

// oneImage is an image of one segment that holds instructions and begins where that does.
func oneImage(at uint64, n int, size uint64) api.Image {
	return api.Image{Entry: at, Segs: []api.Seg{oneSeg(at, readRuns, n, size)}}
}

// twoSegs is an ordinary image: instructions, and what is written.
func twoSegs() api.Image {
	return api.Image{Entry: 65540, Segs: []api.Seg{oneSeg(65536, readRuns, 300, 300), oneSeg(66048, readWrite, 10, 600)}}
}

// fourSegs is an image with as many segments as may be.
func fourSegs() api.Image {
	return api.Image{Entry: 1024 + 299, Segs: []api.Seg{
		oneSeg(256, api.PR, 1, 1), oneSeg(512, api.PW, 0, 512), oneSeg(1024, api.PX, 257, 300), oneSeg(lastAt, 6, 256, 4096),
	}}
}

// copied is an image whose segments are its own.
func copied(x api.Image) api.Image {
	x.Segs = slices.Clone(x.Segs)
	return x
}

// withSeg is an image with another segment in the place i.
func withSeg(x api.Image, i int, change func(*api.Seg)) api.Image {
	x = copied(x)
	change(&x.Segs[i])
	return x
}

// imageRow is an image, and what it is.
type imageRow struct {
	why string
	x   api.Image
}

// goodImages are images that may be: ordinary ones, and the edges.
func goodImages() []imageRow {
	rows := []imageRow{
		{"two segments", twoSegs()},
		{"four segments", fourSegs()},
		{"the document's", api.Image{Entry: 65536, Segs: []api.Seg{{At: 65536, Perm: api.PX, Data: "\x73\x00\x00\x00", Size: 4}}}},
		{"At 0", oneImage(0, 4, 4)},
		{"At the last", oneImage(lastAt, 4, 4)},
		{"At the last, as great as may be", oneImage(lastAt, 16384, 16384)},
		{"Size 1", oneImage(256, 1, 1)},
		{"Size 1, no Data", oneImage(256, 0, 1)},
		{"Size MaxSeg", oneImage(256, 16384, 16384)},
		{"Size MaxSeg, no Data", oneImage(256, 0, 16384)},
		{"Data of all but a byte", oneImage(256, 16383, 16384)},
		{"segments that touch", api.Image{Entry: 512, Segs: []api.Seg{oneSeg(256, 4, 3, 256), oneSeg(512, 5, 1, 1), oneSeg(768, 6, 0, 257), oneSeg(1280, 6, 7, 8)}}},
		{"all of them instructions", api.Image{Entry: 700, Segs: []api.Seg{oneSeg(0, 1, 3, 256), oneSeg(256, 5, 1, 1), oneSeg(512, 1, 0, 257)}}},
		{"as great as may be", api.Image{Entry: 0, Segs: []api.Seg{oneSeg(0, 5, 16384, 16384), oneSeg(16384, 6, 16384, 16384), oneSeg(32768, 4, 16384, 16384), oneSeg(49152, 2, 16384, 16384)}}},
	}
	for _, perm := range []int{1, 2, 4, 5, 6} {
		x := twoSegs()
		x.Segs[1].Perm = perm
		rows = append(rows, imageRow{fmt.Sprint("Perm ", perm), x})
	}
	return rows
}

// badSegs are ways in which a segment may not be by itself.
func badSegs() map[string]func(*api.Seg) {
	bad := map[string]func(*api.Seg){
		"At one above":        func(g *api.Seg) { g.At++ },
		"At one below":        func(g *api.Seg) { g.At-- },
		"At half a page":      func(g *api.Seg) { g.At += 128 },
		"At 2^40":             func(g *api.Seg) { g.At = 1 << 40 },
		"At 2^40 and a page":  func(g *api.Seg) { g.At = 1<<40 + 256 },
		"At 2^63":             func(g *api.Seg) { g.At = 1 << 63 },
		"At the last page":    func(g *api.Seg) { g.At = math.MaxUint64 - 255 },
		"Size 0":              func(g *api.Seg) { g.Size = 0; g.Data = "" },
		"Size above MaxSeg":   func(g *api.Seg) { g.Size = 16385 },
		"Size of a page more": func(g *api.Seg) { g.Size = 16384 + 256 },
		"Size 2^32":           func(g *api.Seg) { g.Size = 1 << 32 },
		"Size 2^64 - 1":       func(g *api.Seg) { g.Size = math.MaxUint64 },
		"Size 2^64 - 255":     func(g *api.Seg) { g.Size = math.MaxUint64 - 254 },
		"Data of a byte more": func(g *api.Seg) { g.Data = someBytes(int(g.Size) + 1) },
		"Data of a page more": func(g *api.Seg) { g.Data = someBytes(int(g.Size) + 256) },
		"Data, but Size 0":    func(g *api.Seg) { g.Size = 0 },
	}
	for _, perm := range []int{math.MinInt, -8, -4, -1, 0, 3, 7, 8, 9, 12, 13, 1 << 32, 1<<32 + 4, 1<<32 + 5, math.MaxInt} {
		bad[fmt.Sprint("Perm ", perm)] = func(g *api.Seg) { g.Perm = perm }
	}
	return bad
}

// badEntries are images that don't begin where some instructions are.
func badEntries() []imageRow {
	var rows []imageRow
	for _, entry := range []uint64{
		0, 255, 256, 511, 512, 1023, 1024 + 300, 1024 + 511, 1024 + 512, lastAt, lastAt + 4095, lastAt + 4096, 1 << 40, 1<<63 + 1024, math.MaxUint64,
	} {
		x := fourSegs()
		x.Entry = entry
		rows = append(rows, imageRow{fmt.Sprint("Entry ", entry), x})
	}
	none := withSeg(twoSegs(), 0, func(g *api.Seg) { g.Perm = 4 })
	return append(rows, imageRow{"no instructions", none})
}

// badImages are images that may not be, each for one reason.
func badImages() []imageRow {
	five := fourSegs()
	five.Segs[3].At = 1536
	five.Segs = append(five.Segs, oneSeg(8192, 6, 1, 1))
	rows := []imageRow{
		{"nothing", api.Image{}},
		{"no segment", api.Image{Entry: 65536, Segs: []api.Seg{}}},
		{"a segment of nothing", api.Image{Segs: make([]api.Seg, 1)}},
		{"five segments", five},
		{"two of one place", withSeg(twoSegs(), 1, func(g *api.Seg) { g.At = 65536 })},
		{"within the pages of the one ahead", withSeg(twoSegs(), 1, func(g *api.Seg) { g.At = 65792 })},
		{"within the last page of the one ahead", withSeg(fourSegs(), 2, func(g *api.Seg) { g.At = 768; g.Size = 1024 })},
		{"ahead of the one ahead", withSeg(twoSegs(), 1, func(g *api.Seg) { g.At = 256 })},
		{"ahead of the one ahead, the last", withSeg(fourSegs(), 3, func(g *api.Seg) { g.At = 0 })},
		{"behind the first, ahead of the second", withSeg(fourSegs(), 3, func(g *api.Seg) { g.At = 512 })},
		{"the one ahead is too great", withSeg(fourSegs(), 1, func(g *api.Seg) { g.Size = 513 })},
	}
	rows = append(rows, badEntries()...)
	for why, change := range badSegs() {
		one := oneImage(65536, 4, 4)
		rows = append(rows, imageRow{why + ", alone", withSeg(one, 0, change)})
		// The other segments are far enough from each other for all that is wrong by itself.
		apart := api.Image{Entry: 1 << 20, Segs: []api.Seg{oneSeg(1<<20, readRuns, 4, 4), oneSeg(1<<21, readWrite, 4, 4), oneSeg(1<<22, api.PR, 4, 4)}}
		for i := range apart.Segs {
			rows = append(rows, imageRow{fmt.Sprint(why, ", of segment ", i), withSeg(apart, i, change)})
		}
	}
	return rows
}

// fileOf is the file of an image by the document's list, whether that may be or not: what is told of segments at fixed places, their Data behind that.
func fileOf(x api.Image) string {
	le := binary.LittleEndian
	b := make([]byte, 64+56*len(x.Segs))
	copy(b, []byte{0x7f, 0x45, 0x4c, 0x46, 2, 1, 1})
	le.PutUint16(b[16:], 2)
	le.PutUint16(b[18:], 243)
	le.PutUint32(b[20:], 1)
	le.PutUint64(b[24:], x.Entry)
	le.PutUint64(b[32:], 64)
	le.PutUint16(b[52:], 64)
	le.PutUint16(b[54:], 56)
	le.PutUint16(b[56:], uint16(len(x.Segs)))
	for i, g := range x.Segs {
		b = append(b, make([]byte, (256-len(b)%256)%256)...)
		told := b[64+56*i:]
		le.PutUint32(told, 1)
		le.PutUint32(told[4:], uint32(g.Perm))
		le.PutUint64(told[8:], uint64(len(b)))
		le.PutUint64(told[16:], g.At)
		le.PutUint64(told[24:], g.At)
		le.PutUint64(told[32:], uint64(len(g.Data)))
		le.PutUint64(told[40:], g.Size)
		le.PutUint64(told[48:], 256)
		b = append(b, g.Data...)
	}
	return string(b)
}

// patched is s with other bytes from that place on.
func patched(s string, at int, by string) string {
	return s[:at] + by + s[at+len(by):]
}

// number is v in so many bytes, the lowest first.
func number(v uint64, wide int) string {
	return string(binary.LittleEndian.AppendUint64(nil, v)[:wide])
}

// segAt is where a file tells of the segment i.
func segAt(i int) int {
	return 64 + 56*i
}

// told tells of an image in few words.
func told(x api.Image) string {
	var b strings.Builder
	fmt.Fprintf(&b, "Entry %d", x.Entry)
	for _, g := range x.Segs {
		fmt.Fprintf(&b, "; At %d, Perm %d, Data of %d, Size %d", g.At, g.Perm, len(g.Data), g.Size)
	}
	return b.String()
}

// equal: are two images the same, by all that they have?
func equal(a, b api.Image) bool {
	return a.Entry == b.Entry && slices.Equal(a.Segs, b.Segs)
}

// expectRead: Read answers that image and that error.
func expectRead(t *testing.T, why, s string, want api.Image, wantE api.Errno) {
	t.Helper()
	x, e := elf.Read(s)
	if !equal(x, want) || e != wantE {
		t.Errorf("%s: Read answers %s, %d, not %s, %d", why, told(x), e, told(want), wantE)
	}
}

// expectNone: Read refuses with that error, and answers no image.
func expectNone(t *testing.T, why, s string, wantE api.Errno) {
	t.Helper()
	expectRead(t, why, s, api.Image{}, wantE)
}
