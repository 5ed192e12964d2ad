package opt_test

import (
	"slices"
	"strings"
	"sync"
	"testing"

	"fretsaw/api"
	"fretsaw/ir"
	"fretsaw/opt"
)

// P20.3: whatever passes are done, the stages fit, and tell what they told; Merges, Before and After stay.
func TestTellTheSame(t *testing.T) {
	told := 0
	for i := range uint64(300) {
		d := dice(40000 + i)
		g := drawnStages(d)
		texts := []string{"", text(d, 3), text(d, 12), text(d, 40), everything()}
		for passes := range 32 {
			if passes > 0 && passes < 31 && d.IntN(4) > 0 {
				continue
			}
			behind, e := opt.Run(g, passes)
			if e != api.OK || !ir.Right(behind) {
				t.Fatalf("at %d: Run(%s, %d) = %s, %d", i, showStages(g), passes, showStages(behind), e)
			}
			checkKept(t, g, behind)
			for _, s := range texts {
				checkTold(t, g, behind, s)
				if ids, e := ir.Eval(g, s); e == api.OK {
					told += len(ids)
				}
			}
		}
		if t.Failed() {
			t.Fatal("at", i)
		}
	}
	if told < 200000 {
		t.Error("these show too little:", told)
	}
}

// checkKept asks that Merges, Before and After are what they were.
func checkKept(t *testing.T, ahead, behind []api.Stage) {
	t.Helper()
	a, b := ahead[len(ahead)-2:], behind[len(behind)-2:]
	if !slices.Equal(a[0].Merges, b[0].Merges) || !slices.Equal(a[1].Before, b[1].Before) || !slices.Equal(a[1].After, b[1].After) {
		t.Errorf("%s become %s", showStages(ahead), showStages(behind))
	}
}

// P20.3: all texts of up to five of these bytes.
func TestTellTheSameOfShortTexts(t *testing.T) {
	for i := range uint64(60) {
		g := drawnStages(dice(50000 + i))
		behind := checkRun(t, g, 31)
		texts := []string{""}
		for j := 0; len(texts[j]) < 5; j++ {
			checkTold(t, g, behind, texts[j])
			for _, b := range []string{"a", "b", "c"} {
				texts = append(texts, texts[j]+b)
			}
		}
		if t.Failed() {
			t.Fatal("at", i)
		}
	}
}

// P20.3: of configurations, through all passes.
func TestTellTheSameOfConfigs(t *testing.T) {
	for _, c := range []string{
		`split [a-z]+/merge "a" "b"`,
		`split [a-z]+/merge "a" "b"/merge "ab" "c"/name "<s>"/before "<s>"`,
		`pass/rule "A" -> "a"/split [a-z]+/merge "a" "b"`,
		`pass/rule "A" -> "a"/pass/rule "ab" -> "ba"/pass/pass/rule "b" -> "c"/split [a-z]+/merge "a" "b"/merge "c" "a"/name "n"/after "n"`,
		`pass/rule "a" -> "b"/rule "b" -> "a"/pass/rule "a" -> "b"/rule "b" -> "a"/split [a-z]+|[^a-z]{1,3}/merge "a" "b"`,
		`pass/rule "c" -> ""/split a*b/merge "a" "c"/merge "a" "a"/merge "aa" "b"`,
		`pass/rule "ab" -> "c"/rule "abc" -> "d"/pass/rule "cc" -> "ab"/rule "d" -> ""/split .+/merge "d" "d"/merge "a" "b"/merge "b" "d"/merge "ab" "ab"`,
	} {
		g := lowered(c)
		for passes := range 32 {
			behind := checkRun(t, g, passes)
			checkKept(t, g, behind)
			for i := range uint64(30) {
				checkTold(t, g, behind, text(dice(60000+i), 30))
			}
			for _, s := range []string{"", "abcab c", "Ab", "aaa", "abcabdccab", everything()} {
				checkTold(t, g, behind, s)
			}
		}
	}
}

// P20.3: long texts: of those of more than MaxInput bytes nothing is told, behind passes either; one that was too long on its way alone may be told.
func TestTellTheSameOfLongTexts(t *testing.T) {
	s := strings.Repeat("a", api.MaxInput)
	many, gone := always(strings.Repeat("a", 64), 0, ""), always("", 0, "e")
	for _, passes := range []int{0, 1, 2, 4, 8, 16, 31} {
		for _, g := range [][]api.Stage{row(), row(instead('a', 'b')), row(plainMachine(2), plainMachine(1)), row(many), row(many, gone)} {
			behind := checkRun(t, g, passes)
			checkTold(t, g, behind, s)
			checkTold(t, g, behind, s[1:])
			if ids, e := ir.Eval(behind, s+"a"); e != api.ErrLong || len(ids) > 0 {
				t.Errorf("behind %d, %s tells %d ids of too long a text, and error %d", passes, showStages(behind), len(ids), e)
			}
		}
		g := row(always(strings.Repeat("a", 65), 0, ""), gone)
		if ids, e := ir.Eval(g, s); e != api.ErrLong || len(ids) > 0 {
			t.Fatal("that is not too long", e)
		}
		checkTold(t, g, checkRun(t, g, passes), s)
		checkTold(t, g, checkRun(t, g, passes), s[:4000])
	}
}

// R1: each call is a function of its arguments alone, also if several call at one time.
func TestCallsAtOneTime(t *testing.T) {
	shared := withMerges(row(instead('a', 'b'), ruled("bb", "c"), instead('b', 'x')), pairs('b', 'c', 'x', 'c'), 1)
	want := meantRun(shared, 31)
	var group sync.WaitGroup
	for range 8 {
		group.Go(func() {
			for i := range uint64(20) {
				g := drawnStages(dice(70000 + i))
				checkRun(t, g, int(i))
				checkLive(t, g)
				checkLive(t, shared)
				if got, e := opt.Run(shared, 31); e != api.OK || !slices.EqualFunc(got, want, sameStage) {
					t.Errorf("Run(%s, 31) = %s, %d", showStages(shared), showStages(got), e)
				}
				checkRunFails(t, shared, 32, api.ErrArg)
				checkRunFails(t, nil, 31, api.ErrGraph)
			}
		})
	}
	group.Wait()
}
