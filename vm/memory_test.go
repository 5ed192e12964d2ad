package vm_test

import (
	"reflect"
	"slices"
	"sync"
	"testing"
	"unsafe"

	"fretsaw/api"
	"fretsaw/vm"
)

// span is where memory lies.
type span struct{ from, to uintptr }

func listSpan(l []int) span {
	from := uintptr(unsafe.Pointer(unsafe.SliceData(l)))
	return span{from, from + uintptr(cap(l))*unsafe.Sizeof(0)}
}

// meets tells whether two lie in the same memory.
func (s span) meets(other span) bool { return s.from < other.to && other.from < s.to }

// roomy is a list with numbers behind its end, that must stay as they are.
func roomy[E any](l []E) []E {
	out := append(slices.Clone(l), l...)
	return out[:len(l)]
}

// copyOf is a program that shares nothing with p but its texts' bytes.
func copyOf(p api.Program) api.Program {
	p.Code, p.Tables, p.Texts = roomy(p.Code), roomy(p.Tables), roomy(p.Texts)
	for i := range p.Tables {
		p.Tables[i].Data = roomy(p.Tables[i].Data)
	}
	p.Pairs = api.Hash{Seeds: roomy(p.Pairs.Seeds), Keys: roomy(p.Pairs.Keys), Vals: roomy(p.Pairs.Vals)}
	return p
}

// behind is all that a program holds, up to where its lists' memory ends.
func behind(p api.Program) []any {
	out := []any{p, p.Code[:cap(p.Code)], p.Tables[:cap(p.Tables)], p.Texts[:cap(p.Texts)]}
	for _, t := range p.Tables {
		out = append(out, t.Data[:cap(t.Data)])
	}
	return append(out, p.Pairs.Seeds[:cap(p.Pairs.Seeds)], p.Pairs.Keys[:cap(p.Pairs.Keys)], p.Pairs.Vals[:cap(p.Pairs.Vals)])
}

// R4: what a run is given stays as it is, and two runs tell the same, in memory of their own.
func TestRunKeepsNothing(t *testing.T) {
	telling := 0
	for n := range uint64(3000) {
		d := dice(20000 + n)
		p, input := copyOf(drawnProgram(d)), drawnInput(d)
		kept := copyOf(p)
		a, end, used := vm.Run(p, input, 100)
		b, end2, used2 := vm.Run(p, input, 100)
		if end != end2 || used != used2 || !slices.Equal(a, b) {
			t.Errorf("Run(%s, %q) is %s, %d, %d and then %s, %d, %d", show(p), input, show(a), end, used, show(b), end2, used2)
		}
		if !reflect.DeepEqual(behind(p), behind(kept)) {
			t.Errorf("%s was given, and is %s", show(kept), show(p))
		}
		others := [][]int{b}
		for _, table := range p.Tables {
			others = append(others, table.Data)
		}
		for _, l := range others {
			if listSpan(a).meets(listSpan(l)) {
				t.Error("two lists share their memory")
			}
		}
		if len(a) > 0 {
			telling++
		}
		clear(a[:cap(a)]) // what is changed in an answer changes nothing later
		if c, _, _ := vm.Run(p, input, 100); !slices.Equal(b, c) {
			t.Errorf("Run(%s, %q) is %s, and then %s", show(p), input, show(b), show(c))
		}
	}
	if telling < 500 {
		t.Error("these show too little:", telling)
	}
}

// R4: the same of what is merged.
func TestMergeKeepsNothing(t *testing.T) {
	for n := range uint64(3000) {
		d := dice(30000 + n)
		h := drawnPairs(d, 4)
		l := roomy(drawnSigns(d, 4, 20))
		p := copyOf(api.Program{Pairs: h})
		kept, all := copyOf(p), slices.Clone(l[:cap(l)])
		a, ok := vm.Merge(p.Pairs, 4, l)
		b, ok2 := vm.Merge(p.Pairs, 4, l)
		if ok != ok2 || !slices.Equal(a, b) {
			t.Errorf("Merge(%s, 4, %v) is %v, %v, and then %v, %v", show(h), l, a, ok, b, ok2)
		}
		if !slices.Equal(l[:cap(l)], all) || !reflect.DeepEqual(behind(p), behind(kept)) {
			t.Errorf("%v and %s were given, and are %v and %s", all, show(kept.Pairs), l[:cap(l)], show(p.Pairs))
		}
		if listSpan(a).meets(listSpan(b)) || listSpan(a).meets(listSpan(l)) {
			t.Error("two lists share their memory")
		}
	}
}

// R1: calls at one time, on the same program.
func TestAtOneTime(t *testing.T) {
	p := program(next(0, 4), sign(0), putByte(0), jump(0), join(), turn(), next(1, 9), emit(1), jump(6), halt())
	p.Pairs = pairsOf('a', 'b', 0, 256)
	var all sync.WaitGroup
	for n := range 8 {
		all.Go(func() {
			for i := range 200 {
				input := "abcab"[(n+i)%5:]
				want := meantRun(p, input, enough)
				l, end, used := vm.Run(p, input, enough)
				if end != api.Done || used != want.used || !slices.Equal(l, want.ids) {
					t.Errorf("Run(%q) = %v, %d, %d; want %s", input, l, end, used, show(want))
				}
				if got, ok := vm.Merge(p.Pairs, 300, bytesOf("abcab")); !ok || !slices.Equal(got, []int{256, 'c', 256}) {
					t.Error("Merge tells", got, ok)
				}
			}
		})
	}
	all.Wait()
}
