package isa_test

import (
	"math"
	"slices"
	"strings"
	"testing"

	"fretsaw/api"
	"fretsaw/isa"
)

func checkPut(t *testing.T, l []api.Ins, want string, e api.Errno) {
	t.Helper()
	if s, got := isa.Put(l); s != want || got != e {
		t.Errorf("Put(%s) = %s, %d; want %s, %d", showCode(l), show(s), got, show(want), e)
	}
	if s, meant := meantPut(l); s != want || meant != e {
		t.Errorf("Put(%s): meant is %s, %d; want %s, %d", showCode(l), show(s), meant, show(want), e)
	}
}

func checkGet(t *testing.T, s string, want []api.Ins, e api.Errno) {
	t.Helper()
	if l, got := isa.Get(s); !slices.Equal(l, want) || got != e {
		t.Errorf("Get(%s) = %s, %d; want %s, %d", show(s), showCode(l), got, showCode(want), e)
	}
	if l, meant := meantGet(s); !slices.Equal(l, want) || meant != e {
		t.Errorf("Get(%s): meant is %s, %d; want %s, %d", show(s), showCode(l), meant, showCode(want), e)
	}
}

// checkBytes puts instructions that may be, and gets them again.
func checkBytes(t *testing.T, l []api.Ins, s string) {
	t.Helper()
	checkPut(t, l, s, api.OK)
	checkGet(t, s, l, api.OK)
}

// P21.1, P21.2: the chapter's examples, and each Op once.
func TestBytes(t *testing.T) {
	checkBytes(t, []api.Ins{{Op: 2, A: 1, B: 300}}, "\x01\x02\x01\xAC\x02")
	checkBytes(t, []api.Ins{{Op: 8, A: 1, B: 2, D: 3}}, "\x01\x08\x01\x02\x03")
	checkPut(t, []api.Ins{{Op: 1, A: 1}}, "", api.ErrOp)
	checkBytes(t, nil, "\x00")
	checkBytes(t, []api.Ins{}, "\x00")
	for _, x := range []struct {
		i api.Ins
		s string
	}{
		{api.Ins{Op: 1}, "\x01"}, {api.Ins{Op: 2, A: 7, B: 1 << 30}, "\x02\x07\x80\x80\x80\x80\x04"}, {api.Ins{Op: 3, A: 6, B: 5}, "\x03\x06\x05"}, {api.Ins{Op: 4, C: 4095}, "\x04\xFF\x1F"},
		{api.Ins{Op: 5, A: 1, B: 2, C: 3}, "\x05\x01\x02\x03"}, {api.Ins{Op: 6, A: 3, B: 128, C: 127}, "\x06\x03\x80\x01\x7F"}, {api.Ins{Op: 7, A: 4, C: 9}, "\x07\x04\x09"}, {api.Ins{Op: 8, A: 2, B: 7, D: 15}, "\x08\x02\x07\x0F"},
		{api.Ins{Op: 9, A: 1}, "\x09\x01"}, {api.Ins{Op: 10, A: 1}, "\x0A\x01"}, {api.Ins{Op: 11, A: 1, C: 200}, "\x0B\x01\xC8\x01"}, {api.Ins{Op: 12, A: 3}, "\x0C\x03"},
		{api.Ins{Op: 13, A: 3, B: 4}, "\x0D\x03\x04"}, {api.Ins{Op: 14}, "\x0E"}, {api.Ins{Op: 15, A: 5}, "\x0F\x05"}, {api.Ins{Op: 16}, "\x10"}, {api.Ins{Op: 17, A: 6}, "\x11\x06"},
	} {
		checkBytes(t, []api.Ins{x.i}, "\x01"+x.s)
		checkBytes(t, []api.Ins{x.i, {Op: 4, C: 1}, x.i}, "\x03"+x.s+"\x04\x01"+x.s)
	}
}

// P21.1: how many there may be, and where one may not be.
func TestPutMany(t *testing.T) {
	for _, many := range []int{127, 128, 300, 4095, 4096} {
		l := several(many)
		s, e := isa.Put(l)
		if !strings.HasPrefix(s, meantNumber(uint64(many))) || e != api.OK {
			t.Errorf("Put of %d begins with %s, %d", many, show(s), e)
		}
		checkBytes(t, l, s)
	}
	bad := api.Ins{Op: 14, A: 1}
	for _, many := range []int{1, 2, 3, 17, 4096} {
		for _, at := range []int{0, many / 2, many - 1} {
			l := several(many)
			l[at] = bad
			checkPut(t, l, "", api.ErrOp)
		}
	}
	for _, many := range []int{4097, 5000, 100000} {
		l := several(many)
		checkPut(t, l, "", api.ErrLong)
		l[0] = bad
		checkPut(t, l, "", api.ErrLong)
		checkPut(t, make([]api.Ins, many), "", api.ErrLong)
	}
}

// P21.2: how many, which is torn, written otherwise, or too many.
func TestGetHowMany(t *testing.T) {
	for _, x := range []struct {
		s string
		e api.Errno
	}{
		{"", api.ErrShort}, {"\x80", api.ErrShort}, {"\xFF\xFF", api.ErrShort}, {strings.Repeat("\x80", 9), api.ErrShort}, {strings.Repeat("\x80", 10), api.ErrForm}, {strings.Repeat("\x80", 10) + "\x01", api.ErrForm},
		{"\x80\x00", api.ErrForm}, {"\x81\x00\x01", api.ErrForm}, {strings.Repeat("\xFF", 9) + "\x02", api.ErrForm}, {strings.Repeat("\xFF", 9) + "\x01", api.ErrLong}, {strings.Repeat("\xFF", 9) + "\x00", api.ErrForm},
		{"\x81\x20", api.ErrLong}, {"\x81\x20\x12", api.ErrLong}, {"\x81\x20" + strings.Repeat("\x01", 4097), api.ErrLong}, {"\x80\x80\x04", api.ErrLong}, {"\x80\x20", api.ErrShort}, {"\x80\x20\x01", api.ErrShort}, {"\x80\x20\x12", api.ErrOp},
		{"\x00\x00", api.ErrOp}, {"\x00\x80", api.ErrOp}, {"\x00\x01", api.ErrOp}, {"\x01", api.ErrShort}, {"\x02\x01", api.ErrShort},
	} {
		checkGet(t, x.s, nil, x.e)
	}
	checkGet(t, "\x80\x20"+strings.Repeat("\x01", 4096), slices.Repeat([]api.Ins{{Op: 1}}, 4096), api.OK)
	checkGet(t, "\x80\x20"+strings.Repeat("\x01", 4097), nil, api.ErrOp)
	checkGet(t, "\x80\x20"+strings.Repeat("\x01", 4095), nil, api.ErrShort)
}

// P21.2: an Op that is none, or written otherwise, at each place.
func TestGetOps(t *testing.T) {
	for _, x := range []struct {
		op string
		e  api.Errno
	}{
		{"\x00", api.ErrOp}, {"\x12", api.ErrOp}, {"\x13", api.ErrOp}, {"\x7F", api.ErrOp}, {"\x81\x02", api.ErrOp}, {"\x80\x80\x80\x80\x10", api.ErrOp}, {"\x81\x80\x80\x80\x10", api.ErrOp}, {meantNumber(math.MaxUint64), api.ErrOp}, {meantNumber(1 << 63), api.ErrOp}, {meantNumber(1<<63 + 1), api.ErrOp},
		{"\x81\x00", api.ErrForm}, {"\x8E\x80\x00", api.ErrForm}, {strings.Repeat("\xFF", 9) + "\x02", api.ErrForm}, {strings.Repeat("\x81", 10), api.ErrForm}, {"\x80", api.ErrShort}, {strings.Repeat("\x80", 9), api.ErrShort},
	} {
		checkGet(t, "\x01"+x.op, nil, x.e)
		checkGet(t, "\x03\x01\x0E"+x.op, nil, x.e)
		if x.e != api.ErrShort {
			checkGet(t, "\x01"+x.op+"\x01\x01\x01", nil, x.e)
			checkGet(t, "\x03\x01"+x.op+"\x80", nil, x.e)
		}
	}
}

// P21.2: each field of each Op at its bound, above it, torn, and written in more bytes than it needs.
func TestGetFields(t *testing.T) {
	for _, r := range meantRows() {
		for at, kind := range r.kinds {
			most := uint64(meantMost(kind))
			ahead := "\x02\x01" + string(rune(r.op)) + strings.Repeat("\x00", at)
			behind := strings.Repeat("\x00", len(r.kinds)-at-1)
			i := api.Ins{Op: r.op}
			*fieldOf(&i, r.names[at]) = int(most)
			checkGet(t, ahead+meantNumber(most)+behind, []api.Ins{{Op: 1}, i}, api.OK)
			for _, n := range []uint64{most + 1, most + 2, 1 << 31, 1 << 32, 1<<32 + most, 1 << 63, 1<<63 + most, math.MaxUint64} {
				checkGet(t, ahead+meantNumber(n)+behind, nil, api.ErrOp)
				checkGet(t, ahead+meantNumber(n), nil, api.ErrOp)
				checkGet(t, ahead+meantNumber(n)+"\x80", nil, api.ErrOp)
			}
			for _, s := range []string{"\x80\x00", "\x81\x00", "\x80\x80\x00", strings.Repeat("\x80", 10), strings.Repeat("\x80", 9) + "\x02"} {
				checkGet(t, ahead+s+behind, nil, api.ErrForm)
				checkGet(t, ahead+s, nil, api.ErrForm)
			}
			for _, s := range []string{"", "\x80", "\xFF\xFF\xFF", strings.Repeat("\x80", 9)} {
				checkGet(t, ahead+s, nil, api.ErrShort)
			}
		}
	}
}

// P21.2: of two errors the first one is told.
func TestGetTwoErrors(t *testing.T) {
	checkGet(t, "\x02\x0C\x08\x00", nil, api.ErrOp)
	checkGet(t, "\x02\x0C\x80\x00\x00", nil, api.ErrForm)
	checkGet(t, "\x02\x00\x80", nil, api.ErrOp)
	checkGet(t, "\x02\x80\x00\x00", nil, api.ErrForm)
	checkGet(t, "\x01\x05\x08\x80", nil, api.ErrOp)
	checkGet(t, "\x01\x05\x80\x00\xFF\xFF\xFF\xFF\x0F", nil, api.ErrForm)
	checkGet(t, "\x01\x05\x00\xFF\xFF\xFF\xFF\x0F\x80", nil, api.ErrOp)
	checkGet(t, "\x01\x05\x00\x00\x80", nil, api.ErrShort)
}

// P21.2: bytes that end too early, or don't end.
func TestGetTorn(t *testing.T) {
	for _, l := range [][]api.Ins{several(17), several(40), {{Op: 2, A: 7, B: 1 << 30}, {Op: 6, A: 1, B: 300, C: 4095}}, drawnCode(dice(3), 200)} {
		s, _ := isa.Put(l)
		checkBytes(t, l, s)
		for at := range len(s) {
			checkGet(t, s[:at], nil, api.ErrShort)
		}
		for _, behind := range []string{"\x00", "\x01", "\x80", "\xFF", "\n", s} {
			checkGet(t, s+behind, nil, api.ErrOp)
		}
	}
}

// P21.2: all short rows of bytes of some kinds.
func TestGetShort(t *testing.T) {
	found := map[api.Errno]int{}
	signs := []byte{0, 1, 2, 3, 7, 8, 9, 14, 17, 18, 127, 128, 129, 255}
	var all func(s string)
	all = func(s string) {
		l, e := meantGet(s)
		found[e]++
		checkGet(t, s, l, e)
		if again, _ := isa.Put(l); e == api.OK && again != s {
			t.Errorf("%s is got, and put again as %s", show(s), show(again))
		}
		if len(s) < 4 {
			for _, b := range signs {
				all(s + string([]byte{b}))
			}
		}
	}
	all("")
	if found[api.OK] < 50 || found[api.ErrOp] < 1000 || found[api.ErrShort] < 1000 || found[api.ErrForm] < 1000 || found[api.ErrLong] < 10 {
		t.Error("these show too little:", found)
	}
}

// P21.5: what is put is got again; and bytes of which some are changed, if they are got, are put again as they were.
func TestBytesDrawn(t *testing.T) {
	found := map[api.Errno]int{}
	for n := range uint64(30000) {
		d := dice(1000 + n)
		l := drawnCode(d, one(d, 0, 1, 2, 3, d.IntN(12), d.IntN(200)))
		s, _ := meantPut(l)
		checkBytes(t, l, s)
		changed := []byte(s)
		for range 1 + d.IntN(2) {
			at := d.IntN(len(changed))
			switch d.IntN(3) {
			case 0:
				changed[at] = one(d, byte(d.IntN(256)), byte(d.IntN(20)), changed[at]^128, changed[at]+1, changed[at]-1)
			case 1:
				changed = slices.Insert(changed, at, byte(d.IntN(256)))
			case 2:
				changed = slices.Concat(changed[:at], changed[at+1:], []byte{byte(d.IntN(20))})
			}
		}
		l, e := meantGet(string(changed))
		found[e]++
		checkGet(t, string(changed), l, e)
		if e == api.OK {
			checkPut(t, l, string(changed), api.OK)
		}
	}
	if found[api.OK] < 1500 || found[api.ErrOp] < 1000 || found[api.ErrShort] < 1000 || found[api.ErrForm] < 100 || found[api.ErrLong] < 10 {
		t.Error("these show too little:", found)
	}
}
