package redo_test

import (
	"bytes"
	"slices"
	"strconv"
	"strings"
	"testing"

	"incunable/api"
	"incunable/redo"
	"incunable/vault"
)

// open opens the log of a disk that does all.
func open(t *testing.T, d *vault.Disk) *redo.Log {
	t.Helper()
	l, e := redo.Open(d, "log")
	if e != api.OK || l == nil {
		t.Fatalf("P10.1: Open is %d", e)
	}
	return l
}

// fresh is a disk with a log that has these records; all of it lasts.
func fresh(t *testing.T, room int, records ...string) (*vault.Disk, *redo.Log) {
	t.Helper()
	d := vault.New(room)
	l := open(t, d)
	add(t, l, records...)
	is(t, "P10.2", "Flush", l.Flush(), api.OK)
	return d, l
}

func add(t *testing.T, l *redo.Log, records ...string) {
	t.Helper()
	for _, s := range records {
		want := l.Len() + 1
		if n, e := l.Append(s); n != want || e != api.OK {
			t.Fatalf("P10.2: Append of %d bytes is %d, %d, not %d", len(s), n, e, want)
		}
	}
}

func is(t *testing.T, promise, what string, got, want api.Errno) {
	t.Helper()
	if got != want {
		t.Errorf("%s: %s is %d, not %d", promise, what, got, want)
	}
}

// short tells records by their beginnings.
func short(records []string) string {
	var l []string
	for _, s := range records {
		l = append(l, strconv.Quote(s[:min(len(s), 4)])+"*"+strconv.Itoa(len(s)))
	}
	return "[" + strings.Join(l, " ") + "]"
}

// holds holds all that a log tells of itself.
func holds(t *testing.T, what string, l *redo.Log, firm int, stuck api.Errno, want ...string) {
	t.Helper()
	if got := l.All(); !slices.Equal(got, want) {
		t.Errorf("P10.2: %s: All are %s, not %s", what, short(got), short(want))
	}
	if l.Len() != len(want) || l.Firm() != firm || l.Stuck() != stuck {
		t.Errorf("P10.2: %s: Len %d, Firm %d, Stuck %d, not %d, %d, %d", what, l.Len(), l.Firm(), l.Stuck(), len(want), firm, stuck)
	}
}

// lasts wants the log to be found behind crashes that leave nothing, and all, of what does not last.
func lasts(t *testing.T, what string, d *vault.Disk, want ...string) {
	t.Helper()
	for _, names := range []int{-1, 0, 99} {
		for _, pick := range []int{0, 300, 512} {
			left := d.Crash(names, slices.Repeat([]int{pick}, 9))
			holds(t, what, open(t, left), len(want), api.OK, want...)
		}
	}
}

// picture is all that can be told of a disk.
func picture(d *vault.Disk) string {
	var b bytes.Buffer
	b.WriteString(strconv.Itoa(d.Used()))
	for _, name := range d.Names() {
		b.WriteString("\n" + name + "\n")
		for n := range d.Size(name) {
			s, _ := d.Read(name, n)
			b.Write(s)
		}
	}
	return b.String()
}

// kill lets a disk die by what is none of the log's.
func kill(t *testing.T, d *vault.Disk) {
	t.Helper()
	d.Arm(1)
	is(t, "P9.3", "Create", d.Create("other"), api.ErrDiskDead)
}

func long(n int) string { return strings.Repeat("0123456789abcdef", n/16+1)[:n] }

func TestOpenNames(t *testing.T) {
	for n, want := range map[int]api.Errno{0: api.ErrDiskName, 1: api.OK, 2: api.OK, 55: api.OK, 56: api.OK, 57: api.ErrDiskName, 58: api.ErrDiskName, 60: api.ErrDiskName, 61: api.ErrDiskName, 1000: api.ErrDiskName} {
		d := vault.New(20)
		name := strings.Repeat("n", n)
		l, e := redo.Open(d, name)
		is(t, "P10.1", "Open of a name of "+strconv.Itoa(n)+" bytes", e, want)
		if (l == nil) != (want != api.OK) {
			t.Errorf("P10.1: of a name of %d bytes a log, or none: %v", n, l)
		}
		if want != api.OK {
			if d.Used() != 0 || len(d.Names()) != 0 {
				t.Errorf("R2: of a name of %d bytes %q is there", n, d.Names())
			}
			continue
		}
		add(t, l, "x")
		is(t, "P10.2", "Flush", l.Flush(), api.OK)
		is(t, "P10.2", "Reset", l.Reset([]string{"y", long(600)}), api.OK)
		if !slices.Equal(d.Names(), []string{name}) {
			t.Errorf("P10.1: a log has the files %q", d.Names())
		}
		l, e = redo.Open(d.Crash(0, nil), name)
		is(t, "P10.1", "Open again", e, api.OK)
		holds(t, "opened again", l, 2, api.OK, "y", long(600))
	}
	// Any bytes are a name.
	d := vault.New(20)
	for _, name := range []string{"\x00", "\xff", "a/b", ".new", "a b"} {
		l, e := redo.Open(d, name)
		is(t, "P10.1", "Open of "+strconv.Quote(name), e, api.OK)
		add(t, l, name)
		is(t, "P10.2", "Flush", l.Flush(), api.OK)
	}
	for _, name := range []string{"\x00", "\xff", "a/b", ".new", "a b"} {
		l, e := redo.Open(d.Crash(0, nil), name)
		is(t, "P10.1", "Open of "+strconv.Quote(name), e, api.OK)
		holds(t, "each name has its log", l, 1, api.OK, name)
	}
}

func TestOpenDead(t *testing.T) {
	d, _ := fresh(t, 20, "a")
	kill(t, d)
	for _, name := range []string{"log", "none", "", strings.Repeat("n", 57)} {
		l, e := redo.Open(d, name)
		is(t, "P10.1", "Open of "+strconv.Quote(name)+" on a dead disk", e, api.ErrDiskDead)
		if l != nil {
			t.Error("P10.1: a log on a dead disk")
		}
	}
}

func TestOpenNew(t *testing.T) {
	d := vault.New(20)
	holds(t, "a new log", open(t, d), 0, api.OK)
	lasts(t, "a new log", d)
	// It is there now: nothing needs to be made, and nothing can be refused.
	d.Deny(1)
	d.Arm(1)
	holds(t, "a log that is there", open(t, d), 0, api.OK)
	if d.Dead() {
		t.Error("P10.1: Open of a log that is there lets the disk die")
	}
	is(t, "P9.3", "Create", d.Create("x"), api.ErrDiskDead)
}

func TestOpenThere(t *testing.T) {
	d, _ := fresh(t, 20, "a", "", long(1000))
	want := []string{"a", "", long(1000)}
	holds(t, "a log that is there", open(t, d), 3, api.OK, want...)
	lasts(t, "a log that is there", d, want...)
	// What is not flushed is not in the file.
	l := open(t, d)
	add(t, l, "more")
	holds(t, "another one of the same file", open(t, d), 3, api.OK, want...)
	// The log that was opened goes on where the earlier one ended.
	is(t, "P10.2", "Flush", l.Flush(), api.OK)
	m := open(t, d)
	add(t, m, "again")
	is(t, "P10.2", "Flush", m.Flush(), api.OK)
	lasts(t, "gone on with", d, append(want, "more", "again")...)
}

// R2: what is refused leaves the disk as it was.
func TestOpenRefused(t *testing.T) {
	for _, room := range []int{-1, 0, 1} {
		d := vault.New(room)
		l, e := redo.Open(d, "log")
		is(t, "P10.1", "Open with room for "+strconv.Itoa(room), e, api.ErrFull)
		if l != nil || d.Used() != 0 || len(d.Names()) != 0 {
			t.Errorf("R2: behind an Open that is ErrFull: %v, %q", l, d.Names())
		}
	}
	denied := 0
	for k := 1; k < 20; k++ {
		d := vault.New(20)
		d.Deny(k)
		l, e := redo.Open(d, "log")
		if e == api.OK {
			break
		}
		denied++
		is(t, "P10.1", "Open that is refused", e, api.ErrIO)
		if l != nil || d.Used() != 0 || len(d.Names()) != 0 {
			t.Errorf("R2: behind an Open that is ErrIO: %v, %q", l, d.Names())
		}
		holds(t, "opened behind an error", open(t, d), 0, api.OK)
		lasts(t, "opened behind an error", d)
	}
	if denied < 2 {
		t.Errorf("P10.1: a log is made with %d Writes and Syncs", denied)
	}
}

func TestAppendLengths(t *testing.T) {
	d := vault.New(2000)
	l := open(t, d)
	var want []string
	for _, n := range []int{0, 1, 511, 512, 513, 65535, 65536, 0, 65536} {
		add(t, l, long(n))
		want = append(want, long(n))
	}
	for _, n := range []int{65537, 65538, 100000, 1 << 20} {
		if k, e := l.Append(long(n)); k != 0 || e != api.ErrRedoLong {
			t.Errorf("P10.2: Append of %d bytes is %d, %d", n, k, e)
		}
	}
	holds(t, "appended", l, 0, api.OK, want...)
	lasts(t, "appended", d)
	is(t, "P10.2", "Flush", l.Flush(), api.OK)
	holds(t, "flushed", l, len(want), api.OK, want...)
	lasts(t, "flushed", d, want...)
	is(t, "P10.2", "Reset", l.Reset(want[3:8]), api.OK)
	lasts(t, "reset", d, want[3:8]...)
}

// P10.2: Append writes nothing on the disk, be it full, or dead.
func TestAppendWritesNothing(t *testing.T) {
	d, l := fresh(t, 20, "a", long(700))
	before := picture(d)
	d.Deny(1)
	d.Arm(1)
	for range 100 {
		add(t, l, "b", long(5000))
	}
	if picture(d) != before || d.Dead() {
		t.Error("P10.2: Append changes the disk")
	}
	// Neither was met by an Append, so that each is met only now.
	is(t, "P9.3", "Write", d.Write("log", 0, nil), api.ErrIO)
	is(t, "P9.3", "Create", d.Create("x"), api.ErrDiskDead)
	add(t, l, "on a dead disk")
	if l.Firm() != 2 || l.Len() != 203 {
		t.Errorf("P10.2: Len %d, Firm %d", l.Len(), l.Firm())
	}
	lasts(t, "appended", d, "a", long(700))
}

// P10.2: Firm rises with a Flush alone.
func TestFirm(t *testing.T) {
	d := vault.New(99)
	l := open(t, d)
	var want []string
	for n := range 30 {
		before := l.Firm()
		for range n % 4 {
			want = append(want, long(n*13))
			add(t, l, long(n*13))
			holds(t, "appended", l, before, api.OK, want...)
		}
		lasts(t, "appended", d, want[:before]...)
		is(t, "P10.2", "Flush", l.Flush(), api.OK)
		holds(t, "flushed", l, len(want), api.OK, want...)
		lasts(t, "flushed", d, want...)
	}
}

// P10.2, P10.3: records that end just where a sector does, and one byte ahead of it, and behind it, wherever that is.
func TestEveryLength(t *testing.T) {
	for n := range 1200 {
		d, l := fresh(t, 20, long(n))
		add(t, l, "next")
		is(t, "P10.2", "Flush", l.Flush(), api.OK)
		lasts(t, "of "+strconv.Itoa(n)+" bytes", d, long(n), "next")
		add(t, l, "", long(1020-n%1020), "")
		is(t, "P10.2", "Flush", l.Flush(), api.OK)
		lasts(t, "of "+strconv.Itoa(n)+" bytes, and more", d, long(n), "next", "", long(1020-n%1020), "")
		is(t, "P10.2", "Reset", l.Reset([]string{long(n), long(n)}), api.OK)
		add(t, l, long(n))
		is(t, "P10.2", "Flush", l.Flush(), api.OK)
		lasts(t, "of "+strconv.Itoa(n)+" bytes, reset", d, long(n), long(n), long(n))
	}
}

// P10.2: many records, flushed one by one, and opened again in between.
func TestManyFlushes(t *testing.T) {
	d := vault.New(2000)
	l := open(t, d)
	var want []string
	for n := range 2000 {
		s := strconv.Itoa(n) + long(n%97*(n%3))
		want = append(want, s)
		add(t, l, s)
		is(t, "P10.2", "Flush", l.Flush(), api.OK)
		if n%50 == 49 {
			lasts(t, "flushed one by one", d, want...)
			d = d.Crash(0, nil)
			l = open(t, d)
		}
	}
	holds(t, "flushed one by one", l, 2000, api.OK, want...)
}

// P10.2: a Flush of nothing.
func TestFlushOfNothing(t *testing.T) {
	d, l := fresh(t, 20)
	for range 3 {
		is(t, "P10.2", "Flush of nothing", l.Flush(), api.OK)
		holds(t, "nothing", l, 0, api.OK)
	}
	add(t, l, "a")
	for range 3 {
		is(t, "P10.2", "Flush", l.Flush(), api.OK)
		holds(t, "one", l, 1, api.OK, "a")
		lasts(t, "one", d, "a")
	}
}

func TestReset(t *testing.T) {
	outset := []string{"a", long(600), "c"}
	for _, all := range [][]string{
		nil, {}, {""}, {"a"}, {"a", long(600)}, {"z"}, {long(600), "a"}, outset,
		append(slices.Clone(outset), "d"), {"1", "2", "3", "4", "5", "6"}, {long(65536)}, {long(508)}, {long(507)}, {long(509)}, {"", "", "", "", ""},
	} {
		for _, pending := range []string{"", "not flushed"} {
			d, l := fresh(t, 400, outset...)
			if pending != "" {
				add(t, l, pending)
			}
			is(t, "P10.2", "Reset to "+short(all), l.Reset(all), api.OK)
			holds(t, "reset to "+short(all), l, len(all), api.OK, all...)
			lasts(t, "reset to "+short(all), d, all...)
			add(t, l, "more")
			holds(t, "reset, and gone on", l, len(all), api.OK, append(slices.Clone(all), "more")...)
			is(t, "P10.2", "Flush", l.Flush(), api.OK)
			lasts(t, "reset, and gone on", d, append(slices.Clone(all), "more")...)
			if !slices.Equal(d.Names(), []string{"log"}) {
				t.Errorf("P10.2: behind a Reset the files are %q", d.Names())
			}
		}
	}
}

// P10.2: a log that is reset again and again takes no more room than its records need.
func TestResetGivesRoom(t *testing.T) {
	d, l := fresh(t, 30)
	for n := range 50 {
		add(t, l, long(3000), long(3000))
		is(t, "P10.2", "Flush", l.Flush(), api.OK)
		is(t, "P10.2", "Reset", l.Reset([]string{strconv.Itoa(n)}), api.OK)
		lasts(t, "reset often", d, strconv.Itoa(n))
	}
}

// P10.2, R2: a Reset of which one record is too long changes nothing, and the log is not stuck of it.
func TestResetLong(t *testing.T) {
	for _, all := range [][]string{{long(65537)}, {"x", long(65537)}, {long(65537), "x"}, {"x", long(1 << 20), "y"}, {long(65536), long(65537)}} {
		d, l := fresh(t, 400, "a", long(600))
		add(t, l, "b")
		before := picture(d)
		d.Deny(1)
		d.Arm(1)
		is(t, "P10.2", "Reset of a long record", l.Reset(all), api.ErrRedoLong)
		holds(t, "not reset", l, 2, api.OK, "a", long(600), "b")
		if picture(d) != before || d.Dead() {
			t.Error("R2: a Reset that is ErrRedoLong changes the disk")
		}
		d.Deny(0)
		d.Arm(0)
		is(t, "P10.2", "Flush", l.Flush(), api.OK)
		lasts(t, "not reset", d, "a", long(600), "b")
		is(t, "P10.2", "Reset", l.Reset([]string{long(65536)}), api.OK)
		lasts(t, "reset", d, long(65536))
	}
}

// P10.2, R1: which error is told where several would hold: the one that the chapter names first.
func TestWhichError(t *testing.T) {
	tooLong := []string{"x", long(65537)}
	d, l := fresh(t, 20, "a")
	add(t, l, "b")
	kill(t, d)
	is(t, "R1", "a long Reset on a dead disk", l.Reset(tooLong), api.ErrRedoLong)
	holds(t, "not stuck yet", l, 1, api.OK, "a", "b")
	if n, e := l.Append(long(65537)); n != 0 || e != api.ErrRedoLong {
		t.Errorf("R1: a long Append on a dead disk is %d, %d", n, e)
	}
	is(t, "P10.2", "Flush on a dead disk", l.Flush(), api.ErrDiskDead)
	is(t, "R1", "a long Reset of a log that is stuck", l.Reset(tooLong), api.ErrRedoLong)
	is(t, "P10.2", "Reset of a log that is stuck", l.Reset(nil), api.ErrDiskDead)
	if n, e := l.Append(long(65537)); n != 0 || e != api.ErrRedoLong {
		t.Errorf("R1: a long Append to a log that is stuck is %d, %d", n, e)
	}
	holds(t, "stuck", l, 1, api.ErrDiskDead, "a", "b")
	// A dead disk is told before a full one, and before one that denies.
	d, l = fresh(t, 4, "a")
	add(t, l, long(5000))
	d.Deny(1)
	kill(t, d)
	is(t, "P10.2", "Flush on a dead disk", l.Flush(), api.ErrDiskDead)
	// A Flush on a dead disk tells so, though nothing is to be flushed.
	d, l = fresh(t, 20, "a")
	kill(t, d)
	is(t, "P10.2", "Flush of nothing on a dead disk", l.Flush(), api.ErrDiskDead)
	holds(t, "stuck", l, 1, api.ErrDiskDead, "a")
}

// stick lets a log get stuck: by a Flush or a Reset, with that error, at the k-th place where that can be; false, if there is none such.
func stick(t *testing.T, byReset bool, want api.Errno, k int) (*vault.Disk, *redo.Log, bool) {
	t.Helper()
	d, l := fresh(t, 20, "a", long(600))
	add(t, l, "b", long(1200))
	switch want {
	case api.ErrIO:
		d.Deny(k)
	case api.ErrDiskDead:
		d.Arm(k)
	case api.ErrFull:
		d.Create("other")
		for n := range 20 - d.Used() - k + 1 {
			d.Write("other", n, nil)
		}
	}
	e := api.OK
	if byReset {
		e = l.Reset([]string{"new", long(900), "more"})
	} else {
		e = l.Flush()
	}
	if e == api.OK {
		return nil, nil, false
	}
	is(t, "P10.2", "what was refused", e, want)
	return d, l, true
}

// P10.2: a log that is stuck tells the same error from then on, at each Flush and Reset, though the disk does all again; its records are as they were, and more can be appended.
func TestStuck(t *testing.T) {
	for _, byReset := range []bool{false, true} {
		for _, want := range []api.Errno{api.ErrIO, api.ErrDiskDead, api.ErrFull} {
			many := 0
			for k := 1; ; k++ {
				d, l, stuck := stick(t, byReset, want, k)
				if !stuck {
					break
				}
				many++
				what := "stuck with " + strconv.Itoa(int(want)) + " at " + strconv.Itoa(k)
				all := []string{"a", long(600), "b", long(1200)}
				holds(t, what, l, 2, want, all...)
				d.Deny(0)
				d.Remove("other")
				for i, reset := range [][]string{nil, {"x"}, all} {
					is(t, "P10.2", "Flush, "+what, l.Flush(), want)
					is(t, "P10.2", "Reset, "+what, l.Reset(reset), want)
					add(t, l, strconv.Itoa(i))
					all = append(all, strconv.Itoa(i))
					holds(t, what, l, 2, want, all...)
				}
				if want == api.ErrDiskDead {
					continue
				}
				// Stuck is the log, not the disk.
				before := picture(d)
				is(t, "P10.2", "Flush, "+what, l.Flush(), want)
				is(t, "P10.2", "Reset, "+what, l.Reset(nil), want)
				if picture(d) != before {
					t.Error("P10.2: a log that is stuck changes the disk")
				}
				kill(t, d)
				is(t, "P10.2", "Flush on a dead disk, "+what, l.Flush(), want)
				is(t, "P10.2", "Reset on a dead disk, "+what, l.Reset(nil), want)
			}
			if many < 2 {
				t.Errorf("P10.2: a log gets stuck with %d in %d ways", want, many)
			}
		}
	}
}

// P10.3: where room alone was wanting, those that lasted are found, on the disk itself and behind its crashes; the room that was taken in a Reset is given back.
func TestFull(t *testing.T) {
	for _, byReset := range []bool{false, true} {
		for k := 1; ; k++ {
			d, l, stuck := stick(t, byReset, api.ErrFull, k)
			if !stuck {
				break
			}
			holds(t, "full", l, 2, api.ErrFull, "a", long(600), "b", long(1200))
			lasts(t, "full", d, "a", long(600))
			holds(t, "full, and opened again", open(t, d), 2, api.OK, "a", long(600))
			if byReset && (d.Used() != 20-k+1 || !slices.Equal(d.Names(), []string{"log", "other"})) {
				t.Errorf("R2: behind a Reset that is ErrFull %d sectors of %q are used", d.Used(), d.Names())
			}
			is(t, "P9.2", "Remove", d.Remove("other"), api.OK)
			m := open(t, d)
			add(t, m, "b", long(1200))
			is(t, "P10.2", "Flush with room again", m.Flush(), api.OK)
			lasts(t, "room again", d, "a", long(600), "b", long(1200))
		}
	}
}

// P10.3, P10.2: what is opened again on the disk that refused, without a crash, lasts too, as its Firm says.
func TestOpenedBehindRefusal(t *testing.T) {
	for _, byReset := range []bool{false, true} {
		for k := 1; ; k++ {
			d, _, stuck := stick(t, byReset, api.ErrIO, k)
			if !stuck {
				break
			}
			l := open(t, d)
			found := l.All()
			holds(t, "opened behind a refusal", l, len(found), api.OK, found...)
			lasts(t, "opened behind a refusal", d, found...)
			add(t, l, "more")
			lasts(t, "opened behind a refusal, and gone on", d, found...)
			is(t, "P10.2", "Flush", l.Flush(), api.OK)
			lasts(t, "opened behind a refusal, and flushed", d, append(found, "more")...)
		}
	}
}

// P10.1: what a crash left of a log that was being made anew takes no room for ever.
func TestLeftOver(t *testing.T) {
	d, l := fresh(t, 20, "a")
	used := d.Used()
	for k := 1; k < 20; k++ {
		left := d.Crash(0, nil)
		m := open(t, left)
		left.Arm(k)
		if m.Reset([]string{long(2000)}) == api.OK {
			break
		}
		for names := range 3 {
			c := left.Crash(names, slices.Repeat([]int{512}, 20))
			if found := open(t, c).All(); slices.Equal(found, l.All()) && (c.Used() != used || !slices.Equal(c.Names(), []string{"log"})) {
				t.Errorf("P10.1: behind a Reset that died at %d the files are %q", k, c.Names())
			}
		}
	}
}

// R5, R6: what was given, and what is told, is the caller's own.
func TestOwn(t *testing.T) {
	d, l := fresh(t, 20, "a", "b")
	told := l.All()
	told[0] = "?"
	_ = append(told[:1], "?")
	holds(t, "written into", l, 2, api.OK, "a", "b")
	given := []string{"x", "y", "z"}
	is(t, "P10.2", "Reset", l.Reset(given[:2]), api.OK)
	add(t, l, "w")
	if !slices.Equal(given, []string{"x", "y", "z"}) {
		t.Errorf("R5: what was given is now %q", given)
	}
	given[0], given[1] = "?", "?"
	holds(t, "written into", l, 2, api.OK, "x", "y", "w")
	is(t, "P10.2", "Flush", l.Flush(), api.OK)
	lasts(t, "written into", d, "x", "y", "w")
	m := open(t, d)
	m.All()[2] = "?"
	holds(t, "written into", m, 3, api.OK, "x", "y", "w")
	told = l.All()
	add(t, l, "v")
	if !slices.Equal(told, []string{"x", "y", "w"}) {
		t.Errorf("R6: what was told is now %q", told)
	}
}

// The chapter's examples.
func TestExamples(t *testing.T) {
	d := vault.New(9)
	l := open(t, d)
	add(t, l, "a")
	holds(t, "the example", l, 0, api.OK, "a")
	is(t, "P10.2", "Flush", l.Flush(), api.OK)
	holds(t, "the example", l, 1, api.OK, "a")
	add(t, l, "b")
	lasts(t, "the example", d, "a")
}
