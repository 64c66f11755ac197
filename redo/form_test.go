package redo_test

import (
	"math/rand"
	"slices"
	"strconv"
	"strings"
	"testing"

	"incunable/api"
	"incunable/redo"
	"incunable/vault"
)

// sectors are all of a file.
func sectors(d *vault.Disk, name string) [][]byte {
	var l [][]byte
	for n := range d.Size(name) {
		b, _ := d.Read(name, n)
		l = append(l, b)
	}
	return l
}

// laid is a disk with one file, that lasts.
func laid(t *testing.T, name string, l [][]byte) *vault.Disk {
	t.Helper()
	d := vault.New(600)
	d.Create(name)
	for n, b := range l {
		is(t, "P9.2", "Write", d.Write(name, n, b), api.OK)
	}
	d.Sync(name)
	d.SyncNames()
	return d
}

// someLog holds P10.1 of a file in which anything was written: an error leaves all as it was, and a log goes on as any log does.
func someLog(t *testing.T, what string, l [][]byte) bool {
	t.Helper()
	d := laid(t, "log", l)
	d.Create("log.new")
	d.SyncNames()
	before := picture(d)
	m, e := redo.Open(d, "log")
	if e != api.OK {
		if e != api.ErrRedoForm || m != nil || picture(d) != before {
			t.Errorf("P10.1: %s: Open is %v, %d", what, m, e)
		}
		return false
	}
	all := m.All()
	for _, s := range all {
		if len(s) > 65536 {
			t.Errorf("P10.1: %s: a record of %d bytes", what, len(s))
		}
	}
	holds(t, what, m, len(all), api.OK, all...)
	for _, s := range []string{"more", long(700), ""} {
		add(t, m, s)
		all = append(all, s)
		is(t, "P10.2", what+": Flush", m.Flush(), api.OK)
		holds(t, what, open(t, d.Crash(0, nil)), len(all), api.OK, all...)
	}
	is(t, "P10.2", what+": Reset", m.Reset([]string{"x"}), api.OK)
	holds(t, what, open(t, d.Crash(0, nil)), 1, api.OK, "x")
	return true
}

func TestFormOfOther(t *testing.T) {
	zero, ones := make([]byte, 512), slices.Repeat([]byte{0xff}, 512)
	for what, l := range map[string][][]byte{
		"no sector": nil, "a sector of nothing": {zero}, "two of nothing": {zero, zero}, "three of nothing": {zero, zero, zero}, "eight of nothing": slices.Repeat([][]byte{zero}, 8),
		"one of ones": {ones}, "two of ones": {ones, ones}, "many of ones": slices.Repeat([][]byte{ones}, 9), "a text": {[]byte("<a>x</a>")}, "texts": {[]byte("log"), []byte("log"), []byte("log")},
	} {
		if someLog(t, what, l) {
			t.Errorf("P10.1: %s is a log", what)
		}
	}
}

func TestFormOfChance(t *testing.T) {
	r := rand.New(rand.NewSource(1))
	for n := range 2000 {
		var l [][]byte
		for range r.Intn(6) {
			b := make([]byte, 512)
			if r.Intn(3) > 0 {
				r.Read(b)
			} else {
				b[r.Intn(512)] = byte(r.Intn(256))
			}
			l = append(l, b)
		}
		someLog(t, "chance "+strconv.Itoa(n), l)
	}
}

// changed is a file with another byte at some places of a sector.
func changed(log [][]byte, n int, v byte, places ...int) [][]byte {
	other := slices.Clone(log)
	other[n] = slices.Clone(log[n])
	for _, at := range places {
		other[n][at] = v
	}
	return other
}

// P10.1: a log that was changed in one byte, or in the same one of what stands at a sector's beginning and its end.
func TestFormOfChanged(t *testing.T) {
	d, l := fresh(t, 600, "a", long(600))
	anew := sectors(d.Crash(0, nil), "log")
	add(t, l, "b", long(300), "")
	is(t, "P10.2", "Flush", l.Flush(), api.OK)
	twice := sectors(d, "log")
	is(t, "P10.2", "Reset", l.Reset([]string{long(600)}), api.OK)
	for _, log := range [][][]byte{anew, twice, sectors(d, "log")} {
		if !someLog(t, "the log itself", log) {
			t.Fatal("P10.1: the log itself is none")
		}
		for n := range log {
			for at := range 512 {
				for _, v := range []byte{0, 1, 4, 0x80, 0xff} {
					someLog(t, "the log, with a byte changed", changed(log, n, v, at))
					for _, width := range []int{8, 12, 16, 20, 24, 32} {
						if n < 2 && at < width {
							someLog(t, "the log, with a byte changed at both ends", changed(log, n, v, at, 512-width+at))
						}
					}
				}
			}
		}
	}
}

// P10.1: no log has a record that is too long, though there are bytes for one.
func TestFormOfLong(t *testing.T) {
	d, _ := fresh(t, 600, long(65536), long(100), long(1000))
	log := sectors(d, "log")
	for n := range 3 {
		for at := range 8 {
			for v := range 256 {
				m, e := redo.Open(laid(t, "log", changed(log, n, byte(v), at)), "log")
				if e != api.OK {
					continue
				}
				for _, s := range m.All() {
					if len(s) > 65536 {
						t.Errorf("P10.1: a record of %d bytes", len(s))
					}
				}
			}
		}
	}
}

// P10.1: a log that was cut off, or put together in another order, or of two logs.
func TestFormOfParts(t *testing.T) {
	d, l := fresh(t, 600, "a", long(600))
	add(t, l, "b", long(300), "")
	is(t, "P10.2", "Flush", l.Flush(), api.OK)
	log := sectors(d, "log")
	for n := range len(log) {
		someLog(t, "the log, cut off at "+strconv.Itoa(n), log[:n])
		someLog(t, "the log, without its first "+strconv.Itoa(n), log[n:])
	}
	e, m := fresh(t, 600, long(2000), "z")
	is(t, "P10.2", "Reset", m.Reset([]string{long(1500)}), api.OK)
	another := sectors(e, "log")
	for a := range log {
		for b := range log {
			other := slices.Clone(log)
			other[a], other[b] = other[b], other[a]
			someLog(t, "the log in another order", other)
			other = slices.Clone(log)
			other[a] = another[b%len(another)]
			someLog(t, "two logs in one", other)
		}
	}
}

// P10.1, R2: an Open that is ErrRedoForm changes nothing, and a name that is too long is none, though a log has it.
func TestFormLeft(t *testing.T) {
	d, _ := fresh(t, 600, "a")
	for _, name := range []string{"log.new", strings.Repeat("n", 57), strings.Repeat("n", 60)} {
		both := laid(t, name, sectors(d, "log"))
		both.Create("log")
		before := picture(both)
		l, e := redo.Open(both, "log")
		is(t, "P10.1", "Open of a file of nothing", e, api.ErrRedoForm)
		if l != nil || picture(both) != before {
			t.Error("R2: an Open that is ErrRedoForm changes the disk")
		}
		if len(name) > 56 {
			l, e = redo.Open(both, name)
			is(t, "P10.1", "Open of a long name", e, api.ErrDiskName)
			if l != nil || picture(both) != before {
				t.Error("R2: an Open that is ErrDiskName changes the disk")
			}
		}
	}
}

// P10.1: what was written where the log is made anew does not matter, whether the log is there or not.
func TestFormOfNew(t *testing.T) {
	d, _ := fresh(t, 600, "a", long(600))
	log := sectors(d, "log")
	for _, l := range [][][]byte{nil, {[]byte("x")}, slices.Repeat([][]byte{make([]byte, 512)}, 5), log, log[:2]} {
		none := laid(t, "log.new", l)
		holds(t, "none, and a new one", open(t, none), 0, api.OK)
		lasts(t, "none, and a new one", none)
		both := d.Crash(0, nil)
		both.Create("log.new")
		for n, b := range l {
			both.Write("log.new", n, b)
		}
		both.Sync("log.new")
		both.SyncNames()
		m := open(t, both)
		holds(t, "one, and a new one", m, 2, api.OK, "a", long(600))
		is(t, "P10.2", "Reset", m.Reset([]string{"b"}), api.OK)
		lasts(t, "one, and a new one", both, "b")
	}
}

// P10.1: other files of the disk stay as they are.
func TestOtherFiles(t *testing.T) {
	d := laid(t, "data", [][]byte{[]byte("page"), []byte("page")})
	for _, name := range []string{"lo", "logs", "log.", "log.ne", "log.newer", "new", ".new", "LOG"} {
		d.Create(name)
		d.Write(name, 0, []byte(name))
		d.Sync(name)
	}
	before := picture(d)
	l := open(t, d)
	add(t, l, "a", long(1000))
	is(t, "P10.2", "Flush", l.Flush(), api.OK)
	is(t, "P10.2", "Reset", l.Reset([]string{"b"}), api.OK)
	open(t, d)
	d.Remove("log")
	if picture(d) != before {
		t.Errorf("P10.1: other files are changed: %q", strings.Join(d.Names(), " "))
	}
}
