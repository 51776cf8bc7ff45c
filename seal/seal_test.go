package seal_test

import (
	"bytes"
	"math"
	"slices"
	"testing"

	"rookery/api"
	"rookery/seal"
)

type call func(key, at int, b []byte) ([]byte, api.Errno)

func both() map[string]call {
	return map[string]call{"Seal": seal.Seal, "Open": seal.Open}
}

func must(t *testing.T, f call, key, at int, b []byte) []byte {
	t.Helper()
	out, e := f(key, at, b)
	if e != api.OK {
		t.Fatalf("key %d, at %d, %d bytes: error %d", key, at, len(b), e)
	}
	return out
}

// counting makes n bytes that meet every value, if n is large enough.
func counting(n int) []byte {
	b := make([]byte, n)
	for i := range b {
		b[i] = byte(i*7 + 3)
	}
	return b
}

// The streams were worked out from the document's words apart from the program.
var streams = []struct {
	key, at int
	want    [8]byte
}{
	{0, 0, [8]byte{29, 200, 211, 249, 1, 80, 132, 203}},
	{1000, 0, [8]byte{31, 66, 136, 217, 192, 76, 74, 200}},
	{0, 255, [8]byte{156, 217, 149, 174, 5, 157, 70, 196}},
	{1000, 255, [8]byte{158, 82, 73, 142, 196, 153, 12, 194}},
	{7, 3, [8]byte{188, 36, 154, 53, 176, 184, 15, 104}},
	{1, 1, [8]byte{88, 9, 180, 208, 28, 95, 25, 116}},
}

func TestStreamIsAddedAndSubtracted(t *testing.T) {
	plain := []byte{0, 1, 55, 56, 127, 128, 254, 255}
	for _, c := range streams {
		sealed := make([]byte, len(plain))
		opened := make([]byte, len(plain))
		for i, x := range plain {
			sealed[i] = x + c.want[i]
			opened[i] = x - c.want[i]
		}
		if got := must(t, seal.Seal, c.key, c.at, plain); !bytes.Equal(got, sealed) {
			t.Errorf("Seal by %d at %d: %v, want %v", c.key, c.at, got, sealed)
		}
		if got := must(t, seal.Open, c.key, c.at, plain); !bytes.Equal(got, opened) {
			t.Errorf("Open by %d at %d: %v, want %v", c.key, c.at, got, opened)
		}
	}
}

func TestWholeStreamOfMaxSizeBytes(t *testing.T) {
	for _, c := range []struct {
		key, at, sum int
		last         []byte
	}{
		{0, 0, 33424, []byte{248, 187, 248, 230}},
		{api.MaxKey, api.MaxSize - 1, 30906, []byte{214, 214, 250, 70}},
	} {
		got := must(t, seal.Seal, c.key, c.at, make([]byte, api.MaxSize))
		sum := 0
		for _, x := range got {
			sum += int(x)
		}
		if sum != c.sum || !bytes.HasSuffix(got, c.last) {
			t.Errorf("by %d at %d: sum %d, end %v; want %d, %v", c.key, c.at, sum, got[len(got)-4:], c.sum, c.last)
		}
	}
}

func TestCheck(t *testing.T) {
	for _, c := range []struct {
		key, at int
		want    api.Errno
	}{
		{0, 0, api.OK},
		{api.MaxKey, 0, api.OK},
		{0, api.MaxSize - 1, api.OK},
		{api.MaxKey, api.MaxSize - 1, api.OK},
		{-1, 0, api.ErrRange},
		{api.MaxKey + 1, 0, api.ErrRange},
		{0, -1, api.ErrRange},
		{0, api.MaxSize, api.ErrRange},
		{-1, api.MaxSize, api.ErrRange},
		{math.MinInt, 0, api.ErrRange},
		{math.MaxInt, 0, api.ErrRange},
		{0, math.MinInt, api.ErrRange},
		{0, math.MaxInt, api.ErrRange},
		{math.MinInt, math.MaxInt, api.ErrRange},
	} {
		if got := seal.Check(c.key, c.at); got != c.want {
			t.Errorf("Check(%d, %d): %d, want %d", c.key, c.at, got, c.want)
		}
	}
}

func TestWrongInputs(t *testing.T) {
	fits, tooMany := make([]byte, api.MaxSize), make([]byte, api.MaxSize+1)
	for name, f := range both() {
		for _, c := range []struct {
			what    string
			key, at int
			b       []byte
			want    api.Errno
		}{
			{"key below", -1, 0, fits, api.ErrRange},
			{"key above", api.MaxKey + 1, 0, fits, api.ErrRange},
			{"at below", 0, -1, fits, api.ErrRange},
			{"at above", 0, api.MaxSize, fits, api.ErrRange},
			{"key above, no bytes", api.MaxKey + 1, 0, nil, api.ErrRange},
			{"greatest key", math.MaxInt, 0, fits, api.ErrRange},
			{"lowest at", 0, math.MinInt, fits, api.ErrRange},
			{"one byte too many", 0, 0, tooMany, api.ErrMany},
			{"far too many bytes", api.MaxKey, api.MaxSize - 1, make([]byte, 100000), api.ErrMany},
			{"key and bytes", api.MaxKey + 1, 0, tooMany, api.ErrRange},
			{"at and bytes", 0, api.MaxSize, tooMany, api.ErrRange},
		} {
			got, e := f(c.key, c.at, c.b)
			if e != c.want || got != nil {
				t.Errorf("%s, %s: %d bytes, error %d; want none, %d", name, c.what, len(got), e, c.want)
			}
		}
	}
}

func TestNoBytes(t *testing.T) {
	for name, f := range both() {
		for _, b := range [][]byte{nil, {}} {
			got, e := f(api.MaxKey, api.MaxSize-1, b)
			if len(got) != 0 || e != api.OK {
				t.Errorf("%s of nothing: %v, error %d", name, got, e)
			}
		}
	}
}

func TestThereAndBack(t *testing.T) {
	for key := range api.MaxKey + 1 {
		for _, at := range []int{0, 1, 128, api.MaxSize - 1} {
			for _, n := range []int{1, 4, api.MaxSize} {
				b := counting(n)
				if got := must(t, seal.Open, key, at, must(t, seal.Seal, key, at, b)); !bytes.Equal(got, b) {
					t.Fatalf("Open of Seal by %d at %d: %v, want %v", key, at, got, b)
				}
				if got := must(t, seal.Seal, key, at, must(t, seal.Open, key, at, b)); !bytes.Equal(got, b) {
					t.Fatalf("Seal of Open by %d at %d: %v, want %v", key, at, got, b)
				}
			}
		}
	}
}

func TestThereAndBackAtEveryPlace(t *testing.T) {
	b := counting(api.Leaf)
	for at := range api.MaxSize {
		for _, key := range []int{0, 1, api.MaxKey} {
			if got := must(t, seal.Open, key, at, must(t, seal.Seal, key, at, b)); !bytes.Equal(got, b) {
				t.Fatalf("Open of Seal by %d at %d: %v, want %v", key, at, got, b)
			}
		}
	}
}

// As many sealed ones as bytes: at each place every value comes of just one value.
func TestEachByteMayBeAny(t *testing.T) {
	for name, f := range both() {
		for _, key := range []int{0, 1, 500, api.MaxKey} {
			seen := [api.Leaf][256]int{}
			for x := range 256 {
				got := must(t, f, key, 9, bytes.Repeat([]byte{byte(x)}, api.Leaf))
				if len(got) != api.Leaf {
					t.Fatalf("%s by %d: %d bytes of %d", name, key, len(got), api.Leaf)
				}
				for i, y := range got {
					seen[i][y]++
				}
			}
			for i, counts := range seen {
				for y, n := range counts {
					if n != 1 {
						t.Fatalf("%s by %d: byte %d is %d for %d values", name, key, i, y, n)
					}
				}
			}
		}
	}
}

// One byte's sealing hangs on its place in the list, and not on its neighbours.
func TestBytesDoNotTouchEachOther(t *testing.T) {
	b := counting(16)
	whole := must(t, seal.Seal, 12, 34, b)
	for n := range len(b) + 1 {
		if got := must(t, seal.Seal, 12, 34, b[:n]); !bytes.Equal(got, whole[:n]) {
			t.Fatalf("the first %d: %v, want %v", n, got, whole[:n])
		}
	}
	other := slices.Clone(b)
	other[5]++
	got := must(t, seal.Seal, 12, 34, other)
	whole[5]++
	if !bytes.Equal(got, whole) {
		t.Errorf("one byte was changed: %v, want %v", got, whole)
	}
}

func TestArgumentsAreOnlyRead(t *testing.T) {
	for name, f := range both() {
		room := counting(12)
		ahead := slices.Clone(room)
		got := must(t, f, 3, 4, room[2:6])
		if !bytes.Equal(room, ahead) {
			t.Errorf("%s changed what was handed in: %v, was %v", name, room, ahead)
		}
		kept := slices.Clone(got)
		clear(room)
		if !bytes.Equal(got, kept) {
			t.Errorf("%s answered memory that was handed in", name)
		}
		clear(got[:cap(got)])
		again := must(t, f, 3, 4, ahead[2:6])
		if !bytes.Equal(again, kept) {
			t.Errorf("%s, asked again: %v, want %v", name, again, kept)
		}
	}
}

func TestErrorsLeaveNothingBehind(t *testing.T) {
	b := counting(8)
	for name, f := range both() {
		want := must(t, f, 5, 6, b)
		tooMany := counting(api.MaxSize + 1)
		f(5, 6, tooMany)
		f(-1, 6, b)
		if got := must(t, f, 5, 6, b); !bytes.Equal(got, want) {
			t.Errorf("%s behind errors: %v, want %v", name, got, want)
		}
		if !bytes.Equal(tooMany, counting(api.MaxSize+1)) {
			t.Errorf("%s changed what it refused", name)
		}
	}
}
