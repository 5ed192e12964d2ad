package isa_test

import (
	"math"
	"slices"
	"strings"
	"testing"

	"fretsaw/api"
	"fretsaw/isa"
)

func checkText(t *testing.T, l []api.Ins, want string, e api.Errno) {
	t.Helper()
	if s, got := isa.Text(l); s != want || got != e {
		t.Errorf("Text(%s) = %s, %d; want %s, %d", showCode(l), show(s), got, show(want), e)
	}
	if s, meant := meantText(l); s != want || meant != e {
		t.Errorf("Text(%s): meant is %s, %d; want %s, %d", showCode(l), show(s), meant, show(want), e)
	}
}

func checkParse(t *testing.T, s string, want []api.Ins, e api.Errno, line int) {
	t.Helper()
	if l, got, at := isa.Parse(s); !slices.Equal(l, want) || got != e || at != line {
		t.Errorf("Parse(%s) = %s, %d, %d; want %s, %d, %d", show(s), showCode(l), got, at, showCode(want), e, line)
	}
	if l, meant, at := meantParse(s); !slices.Equal(l, want) || meant != e || at != line {
		t.Errorf("Parse(%s): meant is %s, %d, %d; want %s, %d, %d", show(s), showCode(l), meant, at, showCode(want), e, line)
	}
}

// checkLines writes instructions that may be, and parses them again.
func checkLines(t *testing.T, l []api.Ins, s string) {
	t.Helper()
	checkText(t, l, s, api.OK)
	checkParse(t, s, l, api.OK, 0)
}

// checkWrong parses a line that is none, alone, and with others around it.
func checkWrong(t *testing.T, line string) {
	t.Helper()
	checkParse(t, line+"\n", nil, api.ErrAsm, 1)
	checkParse(t, line+"\nhalt\n", nil, api.ErrAsm, 1)
	checkParse(t, "halt\n"+line+"\n", nil, api.ErrAsm, 2)
	checkParse(t, "load r1 300\nmark m1\nhalt\n"+line+"\njoin\n"+line, nil, api.ErrAsm, 4)
}

// P21.3, P21.4: the chapter's examples, and each Op once.
func TestLines(t *testing.T) {
	checkLines(t, []api.Ins{{Op: 2, A: 1, B: 300}}, "load r1 300\n")
	checkLines(t, []api.Ins{{Op: 8, A: 1, B: 2, D: 3}}, "look r1 r2 t3\n")
	checkText(t, []api.Ins{{Op: 1, A: 1}}, "", api.ErrOp)
	checkParse(t, "jump @01", nil, api.ErrAsm, 1)
	checkParse(t, "jump @01\n", nil, api.ErrAsm, 1)
	checkLines(t, nil, "")
	checkLines(t, []api.Ins{}, "")
	for _, x := range []struct {
		i api.Ins
		s string
	}{
		{api.Ins{Op: 1}, "halt"}, {api.Ins{Op: 2, A: 7, B: 1 << 30}, "load r7 1073741824"}, {api.Ins{Op: 2}, "load r0 0"}, {api.Ins{Op: 3, A: 6, B: 5}, "move r6 r5"}, {api.Ins{Op: 4, C: 4095}, "jump @4095"}, {api.Ins{Op: 4}, "jump @0"},
		{api.Ins{Op: 5, A: 1, B: 2, C: 3}, "same r1 2 @3"}, {api.Ins{Op: 6, A: 3, B: 128, C: 127}, "less r3 128 @127"}, {api.Ins{Op: 7, A: 4, C: 9}, "next r4 @9"}, {api.Ins{Op: 8, A: 2, B: 7, D: 15}, "look r2 r7 t15"},
		{api.Ins{Op: 9, A: 1}, "mark m1"}, {api.Ins{Op: 10}, "back m0"}, {api.Ins{Op: 11, A: 1, C: 200}, "here m1 @200"}, {api.Ins{Op: 12, A: 3}, "copy r3"},
		{api.Ins{Op: 13, A: 3, B: 4}, "text r3 r4"}, {api.Ins{Op: 14}, "turn"}, {api.Ins{Op: 15, A: 5}, "sign r5"}, {api.Ins{Op: 16}, "join"}, {api.Ins{Op: 17, A: 6}, "emit r6"},
	} {
		checkLines(t, []api.Ins{x.i}, x.s+"\n")
		checkLines(t, []api.Ins{x.i, {Op: 4, C: 10}, x.i}, x.s+"\njump @10\n"+x.s+"\n")
		checkParse(t, x.s, nil, api.ErrAsm, 1)
		checkParse(t, "halt\n"+x.s, nil, api.ErrAsm, 2)
	}
}

// P21.3: how many there may be, and where one may not be.
func TestTextMany(t *testing.T) {
	for _, many := range []int{300, 4095, 4096} {
		l := several(many)
		s, e := isa.Text(l)
		if strings.Count(s, "\n") != many || e != api.OK {
			t.Errorf("Text of %d is %s, %d", many, show(s), e)
		}
		checkLines(t, l, s)
	}
	bad := api.Ins{Op: 12, A: 8}
	for _, many := range []int{1, 2, 3, 17, 4096} {
		for _, at := range []int{0, many / 2, many - 1} {
			l := several(many)
			l[at] = bad
			checkText(t, l, "", api.ErrOp)
		}
	}
	for _, many := range []int{4097, 5000, 100000} {
		l := several(many)
		checkText(t, l, "", api.ErrLong)
		l[0] = bad
		checkText(t, l, "", api.ErrLong)
	}
	widest := slices.Repeat([]api.Ins{{Op: 5, A: 7, B: 1 << 30, C: 4095}}, 4096)
	checkLines(t, widest, strings.Repeat("same r7 1073741824 @4095\n", 4096))
}

// P21.4: lines that are none.
func TestParseWrong(t *testing.T) {
	for _, line := range []string{
		"", " ", "  ", "\t", "\r", "halt ", " halt", "halt  ", "halt\r", "halt\t", "\thalt", "halt\v", "halt\x00", "\x00halt", "halt r0", "halt 0", "halt @0", "Halt", "HALT", "hALT", "hal", "halts", "h", "haltt", "hlat", "stop", "nop", "r0", "0", "@0", "1", "#", "# halt", "halt # end", "haltjoin", "halt join", "halt,", "halt;",
		"load", "load ", "load r1", "load r1 ", "load r1  300", "load  r1 300", " load r1 300", "load r1 300 ", "load\tr1 300", "load r1\t300", "load r1 300\r", "load r1 300 0", "load r1 300 r1", "load r1 300 @1", "load r1,300", "load r1 r2", "load 1 300", "load 300 r1", "load R1 300", "load m1 300", "load t1 300", "load @1 300", "load r1 @300", "load r1 #300", "loadr1 300", "load r1300",
		"load r 300", "load r1 +300", "load r1 -300", "load r+1 300", "load r-1 300", "load r1 -0", "load r-0 0", "load r01 300", "load r1 0300", "load r1 00", "load r00 0", "load r1 3e2", "load r1 0x1", "load r1 1_0", "load r1 3.0", "load r1 300a", "load r1 a300", "load r1 :", "load r1 1:", "load r1 /", "load r1 1/", "load r: 1", "load r1 ;", "load r8 300", "load r10 300", "load r1 1073741825", "load r1 1073741830", "load r1 10737418240", "load r1 4294967296", "load r1 9223372036854775807", "load r1 9223372036854775808", "load r1 18446744073709551616", "load r1 99999999999999999999999999999", "load r1 18446744073709551617 ", "load r18446744073709551617 1",
		"jump", "jump ", "jump @", "jump 1", "jump r1", "jump @01", "jump @00", "jump @4096", "jump @40950", "jump @1 @2", "jump @1 ", "jump @-1", "jump @+1", "jump @@1", "jump @ 1", "jump1", "jump@1", "jump m1", "jump @18446744073709551616",
		"same r1 2", "same r1 @3", "same r1 @3 2", "same r1 2 3", "same r1 2 @3 @4", "same r1 r2 @3", "less r1 2", "less r1 2 r3", "less r1 2 @", "next r1", "next @1", "next @1 r1", "next r1 1", "next r8 @1", "next m1 @1", "look r1 r2", "look r1 r2 3", "look r1 r2 t16", "look r1 r2 T1", "look r1 t2 r3", "look r1 r2 @3", "look r1 r2 t", "look r1 r2 t01", "look r1 2 t3", "look t3 r1 r2",
		"mark", "mark 1", "mark r1", "mark m2", "mark m10", "mark m01", "mark m", "mark m1 m1", "mark M1", "mark m-1", "back", "back r0", "back m2", "here m1", "here @1", "here m2 @1", "here r1 @1", "here @1 m1", "copy", "copy m1", "copy r8", "copy 1", "copy r1 r2", "text r1", "text r1 2", "text r1 r2 r3", "turn r0", "turn m0", "sign", "sign r9", "sign 0", "join r0", "emit", "emit r8", "emit r1 r1", "emit 1",
		"\xFF", "halt\xFF", "\xFFhalt", "ha\x80lt", "load r\xFF 1", "load r1 \xFF", "load r1 1\xC2", "load\xC2\xA0r1 300", "load\u00A0r1 300", "load r1 \u0663", "load r1 1\u0660", "h\u0251lt", "\uFEFFhalt", "halt\u2028", "load r\uFF11 1", "halt\u0085", "\uFFFD",
	} {
		checkWrong(t, line)
	}
	for _, r := range meantRows() {
		checkWrong(t, strings.ToUpper(r.word))
		checkWrong(t, strings.ToUpper(r.word[:1])+r.word[1:])
		i := api.Ins{Op: r.op}
		s, _ := isa.Text([]api.Ins{i})
		s = strings.TrimSuffix(s, "\n")
		checkWrong(t, strings.ToUpper(s))
		for _, x := range []string{" ", "0", " 0", " r0", " @0", "\r", "\t", " \xFF", "\xFF", "a", "-"} {
			checkWrong(t, s+x)
		}
		if len(r.kinds) > 0 {
			checkWrong(t, s[:strings.LastIndex(s, " ")])
			checkWrong(t, s[:len(s)-1])
			checkWrong(t, s+"1")
			checkWrong(t, r.word+s)
			checkWrong(t, strings.Replace(s, " ", "  ", 1))
			checkWrong(t, strings.Replace(s, " ", "", 1))
			checkWrong(t, strings.Replace(s, " ", "\t", 1))
		}
	}
}

// P21.4: each field at its ends, beyond them, behind a 0, a sign, a letter of another kind.
func TestParseFields(t *testing.T) {
	for _, r := range meantRows() {
		for at, kind := range r.kinds {
			line := func(s string) string {
				out := r.word
				for f, k := range r.kinds {
					if f == at {
						out += " " + s
					} else {
						out += " " + meantAhead(k) + "0"
					}
				}
				return out
			}
			ahead, most := meantAhead(kind), meantMost(kind)
			for _, n := range []int{0, 1, most / 2, most - 1, most} {
				i := api.Ins{Op: r.op}
				*fieldOf(&i, r.names[at]) = n
				checkLines(t, []api.Ins{i}, line(ahead+decimal(n))+"\n")
				checkWrong(t, line(ahead+"0"+decimal(n)))
				checkWrong(t, line(ahead+"+"+decimal(n)))
				checkWrong(t, line(ahead+"-"+decimal(n)))
				for _, other := range []string{"r", "m", "t", "@", ""} {
					if other != ahead {
						checkWrong(t, line(other+decimal(n)))
					}
				}
				if ahead != "" {
					checkWrong(t, line(strings.ToUpper(ahead)+" "+decimal(n)))
					checkWrong(t, line(ahead+ahead+decimal(n)))
				}
			}
			for _, n := range []int{most + 1, most + 2, 10*most + 10, math.MaxInt, 1<<32 + 1} {
				checkWrong(t, line(ahead+decimal(n)))
			}
			checkWrong(t, line(ahead+strings.Repeat("9", 300)))
			checkWrong(t, line(ahead+"1"+strings.Repeat("0", 64)))
			checkWrong(t, line(ahead))
		}
	}
}

func decimal(n int) string {
	if n < 10 {
		return string(rune('0' + n))
	}
	return decimal(n/10) + string(rune('0'+n%10))
}

// P21.4: how long a text may be, and how many lines it may have.
func TestParseLimits(t *testing.T) {
	full := strings.Repeat("halt\n", 4096)
	checkParse(t, full, slices.Repeat([]api.Ins{{Op: 1}}, 4096), api.OK, 0)
	for _, behind := range []string{"halt\n", "halt", "\n", " ", "x\n", "halt\nx\n", "halt\nhalt\nhalt\n", "\n\n\xFF"} {
		checkParse(t, full+behind, nil, api.ErrAsm, 4097)
	}
	checkParse(t, "x\n"+full, nil, api.ErrAsm, 1)
	checkParse(t, full[5:]+"x\n"+full, nil, api.ErrAsm, 4096)
	checkParse(t, full[:5*99]+"x\n"+full+"y\n", nil, api.ErrAsm, 100)

	for _, x := range []struct {
		s    string
		line int
	}{
		{strings.Repeat("a", 262144), 1}, {strings.Repeat("\n", 262144), 1}, {strings.Repeat(" ", 262143) + "\n", 1}, {"halt\n" + strings.Repeat(" ", 262138) + "\n", 2}, {strings.Repeat("\xFF", 262144), 1}, {"load r0 " + strings.Repeat("1", 262135) + "\n", 1},
		{strings.Repeat("halt\n", 52428) + "turn", 4097}, {"halt" + strings.Repeat(" r0", 87379) + "xx\n", 1}, {full + strings.Repeat("x", 262144-len(full)), 4097},
	} {
		if len(x.s) != 262144 {
			t.Fatal("these are", len(x.s))
		}
		checkParse(t, x.s, nil, api.ErrAsm, x.line)
		checkParse(t, x.s+"\n", nil, api.ErrLong, 0)
		checkParse(t, "x"+x.s, nil, api.ErrLong, 0)
	}
	checkParse(t, strings.Repeat("halt\n", 1<<20), nil, api.ErrLong, 0)
}

// P21.4: all short texts of some signs.
func TestParseShort(t *testing.T) {
	found := map[api.Errno]int{}
	parts := []string{"halt", "halt\n", "mark", "load", " ", "\n", " m1", " r0", " 0", "1", "\r"}
	var all func(s string, many int)
	all = func(s string, many int) {
		l, e, at := meantParse(s)
		found[e]++
		checkParse(t, s, l, e, at)
		if e == api.OK {
			checkText(t, l, s, api.OK)
		}
		if many < 5 {
			for _, part := range parts {
				all(s+part, many+1)
			}
		}
	}
	all("", 0)
	for _, ahead := range []string{"look r0", "mark m1\nload r0 1", "halt\nmark"} {
		all(ahead, 1)
	}
	if found[api.OK] < 50 || found[api.ErrAsm] < 100000 {
		t.Error("these show too little:", found)
	}
}

// P21.5: what is written is parsed again; and lines of which something is changed, if they are parsed, are written again as they were.
func TestLinesDrawn(t *testing.T) {
	found := map[api.Errno]int{}
	for n := range uint64(30000) {
		d := dice(20000 + n)
		l := drawnCode(d, one(d, 0, 1, 2, 3, d.IntN(12), d.IntN(40)))
		s, _ := meantText(l)
		checkLines(t, l, s)
		changed := []byte(s + "\n")[:max(len(s), 1)]
		for range one(d, 1, 1, 1, 2) {
			at := d.IntN(len(changed))
			switch b := one(d, byte(d.IntN(256)), ' ', '\n', '0', byte('0'+d.IntN(10)), 'r', '@', 'm', 't'); d.IntN(3) {
			case 0:
				changed[at] = b
			case 1:
				changed = slices.Insert(changed, at, b)
			case 2:
				changed = append(slices.Delete(changed, at, at+1), '\n')
			}
		}
		l, e, at := meantParse(string(changed))
		found[e]++
		checkParse(t, string(changed), l, e, at)
		if e == api.OK {
			checkText(t, l, string(changed), api.OK)
		}
	}
	if found[api.OK] < 600 || found[api.ErrAsm] < 10000 {
		t.Error("these show too little:", found)
	}
}

// P21.5: bytes and lines tell of the same instructions.
func TestBytesAndLines(t *testing.T) {
	for n := range uint64(200) {
		l := drawnCode(dice(30000+n), int(n))
		s, _ := isa.Put(l)
		got, _ := isa.Get(s)
		lines, _ := isa.Text(got)
		read, _, _ := isa.Parse(lines)
		if again, e := isa.Put(read); again != s || e != api.OK {
			t.Errorf("%s is %s behind it all, %d", show(s), show(again), e)
		}
	}
}
