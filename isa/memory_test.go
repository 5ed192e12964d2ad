package isa_test

import (
	"slices"
	"strings"
	"sync"
	"testing"
	"unsafe"

	"fretsaw/api"
	"fretsaw/isa"
)

// span is where memory lies.
type span struct{ from, to uintptr }

func listSpan(l []api.Ins) span {
	from := uintptr(unsafe.Pointer(unsafe.SliceData(l)))
	return span{from, from + uintptr(cap(l))*unsafe.Sizeof(api.Ins{})}
}

func textSpan(s string) span {
	from := uintptr(unsafe.Pointer(unsafe.StringData(s)))
	return span{from, from + uintptr(len(s))}
}

// meets tells whether two lie in the same memory.
func (s span) meets(other span) bool { return s.from < other.to && other.from < s.to }

// R1, R4: answers are new memory, two calls tell the same, and what is given stays as it is, also behind a list's end.
func TestAnswersAreTheirOwn(t *testing.T) {
	for n := range uint64(300) {
		d := dice(40000 + n)
		room := drawnCode(d, 2+int(n))
		kept := slices.Clone(room)
		l := room[:1+d.IntN(len(room)-1)]
		if n%5 == 0 {
			room[0].A, kept[0].A = 99, 99 // one that may not be
		}
		s, e := isa.Put(l)
		lines, e2 := isa.Text(l)
		if e != e2 || (e != api.OK) != (n%5 == 0) {
			t.Fatal("Put and Text tell", e, e2)
		}
		sAgain, _ := isa.Put(l)
		linesAgain, _ := isa.Text(l)
		if s != sAgain || lines != linesAgain || s != "" && (textSpan(s).meets(textSpan(sAgain)) || textSpan(lines).meets(textSpan(linesAgain))) {
			t.Error("Put and Text tell the same memory, or another answer")
		}
		if !slices.Equal(room, kept) {
			t.Errorf("%s was given, and is %s", showCode(kept), showCode(room))
		}
		a, _ := isa.Get(s)
		b, _ := isa.Get(s)
		c, _, _ := isa.Parse(lines)
		for at, x := range [][]api.Ins{a, b, c} {
			for _, y := range [][]api.Ins{a, b, c, room}[at+1:] {
				if listSpan(x).meets(listSpan(y)) {
					t.Error("two lists share their memory")
				}
			}
			if e == api.OK && !slices.Equal(x, l) {
				t.Errorf("%s is %s", showCode(l), showCode(x))
			}
		}
	}
}

// R1: what is changed in an answer changes nothing later.
func TestAnswersChanged(t *testing.T) {
	s, _ := isa.Put(several(40))
	lines, _ := isa.Text(several(40))
	for range 3 {
		a, _ := isa.Get(s)
		b, _, _ := isa.Parse(lines)
		if !slices.Equal(a, several(40)) || !slices.Equal(b, several(40)) {
			t.Fatal("another answer than before")
		}
		clear(a)
		clear(b)
	}
}

// R1: calls at one time.
func TestAtOneTime(t *testing.T) {
	var all sync.WaitGroup
	for n := range uint64(8) {
		all.Go(func() {
			for i := range uint64(50) {
				l := drawnCode(dice(50000+(n+i)%9), 60)
				s, _ := isa.Put(l)
				lines, _ := isa.Text(l)
				a, e := isa.Get(s)
				b, e2, _ := isa.Parse(lines)
				if e != api.OK || e2 != api.OK || !slices.Equal(a, l) || !slices.Equal(b, l) || !isa.Right(l[i]) {
					t.Errorf("%s becomes %s and %s", showCode(l), showCode(a), showCode(b))
				}
				if _, e, at := isa.Parse(strings.Repeat("halt\n", int(i)) + lines[1:]); e != api.ErrAsm || at != int(i)+1 {
					t.Error("Parse tells", e, at)
				}
			}
		})
	}
	all.Wait()
}
