package vault_test

import (
	"bytes"
	"maps"
	"math"
	"slices"
	"strconv"
	"strings"
	"testing"

	"incunable/api"
	"incunable/vault"
)

// padded is a sector that begins so.
func padded(s string) []byte { return append([]byte(s), make([]byte, api.Sector-len(s))...) }

// is holds what a call told against what is wanted.
func is(t *testing.T, promise, what string, got, want api.Errno) {
	t.Helper()
	if got != want {
		t.Errorf("%s: %s is %d, not %d", promise, what, got, want)
	}
}

// ok wants all calls to be OK.
func ok(t *testing.T, d *vault.Disk, l ...call) {
	t.Helper()
	for _, c := range l {
		if e := c.do(d); e != api.OK {
			t.Fatalf("%v is %d", c, e)
		}
	}
}

func made(name string) call { return call{kind: create, name: name} }
func wrote(name string, n int, s string) call {
	return call{kind: write, name: name, n: n, b: []byte(s)}
}
func synced(name string) call      { return call{kind: sync, name: name} }
func renamed(from, to string) call { return call{kind: rename, name: from, to: to} }
func removed(name string) call     { return call{kind: remove, name: name} }

var namesSynced = call{kind: syncNames}

// has holds a file against the beginnings of its sectors.
func has(t *testing.T, promise string, d *vault.Disk, name string, want ...string) {
	t.Helper()
	if d.Size(name) != len(want) {
		t.Errorf("%s: Size(%q) is %d, not %d", promise, name, d.Size(name), len(want))
		return
	}
	for n, s := range want {
		b, e := d.Read(name, n)
		if e != api.OK || !bytes.Equal(b, padded(s)) {
			t.Errorf("%s: Read(%q, %d) is %q.., %d, not %q", promise, name, n, bytes.TrimRight(b, "\x00"), e, s)
		}
	}
}

func names(t *testing.T, promise string, d *vault.Disk, want ...string) {
	t.Helper()
	if got := d.Names(); !slices.Equal(got, want) {
		t.Errorf("%s: Names are %q, not %q", promise, got, want)
	}
}

// room tells how many sectors go onto a disk, of which there may not be more than 2^16.
func room(t *testing.T, d *vault.Disk) int {
	t.Helper()
	ok(t, d, made("f"))
	for n := range 65538 {
		switch e := d.Write("f", n, nil); {
		case e == api.ErrFull && d.Used() == n && d.Size("f") == n:
			return n
		case e != api.OK:
			t.Fatalf("P9.1: Write(f, %d) is %d, with %d used", n, e, d.Used())
		}
	}
	t.Fatal("P9.1: a disk has room for more than 2^16 sectors")
	return 0
}

func TestRoom(t *testing.T) {
	for _, r := range []struct{ room, want int }{{math.MinInt, 0}, {-1, 0}, {0, 0}, {1, 1}, {7, 7}, {65535, 65535}, {65536, 65536}, {65537, 65536}, {math.MaxInt, 65536}} {
		d := vault.New(r.room)
		names(t, "P9.1", d)
		if d.Used() != 0 || d.Dead() || d.Size("f") != -1 {
			t.Errorf("P9.1: New(%d) has something", r.room)
		}
		if got := room(t, d); got != r.want {
			t.Errorf("P9.1: New(%d) has room for %d, not %d", r.room, got, r.want)
		}
		if r.want <= 7 {
			if got := room(t, d.Crash(0, nil)); got != r.want {
				t.Errorf("P9.4: a crash of New(%d) has room for %d, not %d", r.room, got, r.want)
			}
		}
	}
}

func TestNames(t *testing.T) {
	d := vault.New(9)
	ok(t, d, made("b"), made("\xff"), made("a.new"), made("a"), made("B"), made("\x00"), made("ab"), made("10"), made("9"))
	names(t, "P9.1", d, "\x00", "10", "9", "B", "a", "a.new", "ab", "b", "\xff")
	ok(t, d, wrote("a", 0, "x"), wrote("a", 1, "y"), wrote("b", 0, "z"))
	if d.Used() != 3 || d.Size("a") != 2 || d.Size("b") != 1 || d.Size("B") != 0 || d.Size("c") != -1 || d.Size("") != -1 {
		t.Errorf("P9.1: %d used", d.Used())
	}
	ok(t, d, removed("a"))
	if d.Used() != 1 || d.Size("a") != -1 {
		t.Errorf("P9.1: %d used behind a Remove", d.Used())
	}
}

// P9.2: which names there may be; they are counted by their bytes.
func TestWhichNames(t *testing.T) {
	for _, r := range []struct {
		name string
		want api.Errno
	}{
		{"", api.ErrDiskName}, {"n", api.OK}, {"\x00", api.OK}, {"\xc0\x80", api.OK}, {" / ", api.OK},
		{strings.Repeat("n", 60), api.OK}, {strings.Repeat("n", 61), api.ErrDiskName},
		{strings.Repeat("\u20ac", 20), api.OK}, {strings.Repeat("\u20ac", 21), api.ErrDiskName}, {strings.Repeat("n", 1<<20), api.ErrDiskName},
	} {
		d := vault.New(1)
		is(t, "P9.2", "Create", d.Create(r.name), r.want)
		ok(t, d, made("from"))
		is(t, "P9.2", "Rename", d.Rename("from", r.name), r.want)
		if r.want == api.OK {
			names(t, "P9.2", d, r.name)
		} else {
			names(t, "P9.2", d, "from")
		}
	}
}

func TestCreate(t *testing.T) {
	d := vault.New(9)
	ok(t, d, made("a"))
	has(t, "P9.2", d, "a")
	ok(t, d, wrote("a", 0, "x"), wrote("a", 1, "y"), made("a"))
	has(t, "P9.2", d, "a")
	if d.Used() != 0 {
		t.Errorf("P9.2: %d used behind a Create of a name that is there", d.Used())
	}
	names(t, "P9.2", d, "a")
	ok(t, d, wrote("a", 0, "z"), removed("a"))
	names(t, "P9.2", d)
	ok(t, d, made("a"))
	has(t, "P9.2", d, "a")
}

func TestWrite(t *testing.T) {
	d := vault.New(3)
	full := strings.Repeat("f", 512)
	ok(t, d, made("a"), wrote("a", 0, "long"), wrote("a", 1, full))
	has(t, "P9.2", d, "a", "long", full)
	ok(t, d, wrote("a", 0, "ab"), wrote("a", 1, ""))
	has(t, "P9.2", d, "a", "ab", "")
	for _, n := range []int{math.MinInt, -1, 3, 4, math.MaxInt} {
		is(t, "P9.2", "Write there", d.Write("a", n, nil), api.ErrDiskPlace)
	}
	for n := range 3 {
		is(t, "P9.2", "Write of 513 bytes", d.Write("a", n, make([]byte, 513)), api.ErrDiskPlace)
	}
	is(t, "P9.2", "Write of no file", d.Write("b", 0, nil), api.ErrDiskNone)
	has(t, "P9.2", d, "a", "ab", "")
	ok(t, d, made("b"), wrote("b", 0, "z"))
	is(t, "P9.2", "Write of a third sector", d.Write("a", 2, nil), api.ErrFull)
	is(t, "P9.2", "Write of a second sector", d.Write("b", 1, nil), api.ErrFull)
	has(t, "P9.2", d, "a", "ab", "")
	has(t, "P9.2", d, "b", "z")
	ok(t, d, wrote("a", 1, "full"), wrote("b", 0, "full"))
	has(t, "P9.2", d, "a", "ab", "full")
	has(t, "P9.2", d, "b", "full")
}

func TestRead(t *testing.T) {
	d := vault.New(3)
	ok(t, d, made("a"), wrote("a", 0, "x"))
	for _, n := range []int{math.MinInt, -1, 1, 2, math.MaxInt} {
		b, e := d.Read("a", n)
		is(t, "P9.2", "Read there", e, api.ErrDiskPlace)
		if b != nil {
			t.Error("P9.2: bytes beside an error")
		}
	}
	for _, name := range []string{"b", "", strings.Repeat("n", 61)} {
		_, e := d.Read(name, -1)
		is(t, "P9.2", "Read of no file", e, api.ErrDiskNone)
	}
	has(t, "P9.2", d, "a", "x")
}

func TestRename(t *testing.T) {
	d := vault.New(3)
	ok(t, d, made("a"), wrote("a", 0, "x"), wrote("a", 1, "y"), made("b"), wrote("b", 0, "z"))
	ok(t, d, renamed("a", "a"))
	names(t, "P9.2", d, "a", "b")
	has(t, "P9.2", d, "a", "x", "y")
	ok(t, d, renamed("a", "b"))
	names(t, "P9.2", d, "b")
	has(t, "P9.2", d, "b", "x", "y")
	if d.Used() != 2 {
		t.Errorf("P9.2: %d used behind a Rename onto another file", d.Used())
	}
	ok(t, d, renamed("b", "c"), wrote("c", 2, "more"))
	names(t, "P9.2", d, "c")
	has(t, "P9.2", d, "c", "x", "y", "more")
	is(t, "P9.2", "Rename of no file", d.Rename("a", "b"), api.ErrDiskNone)
	is(t, "P9.2", "Rename of no file onto itself", d.Rename("a", "a"), api.ErrDiskNone)
	is(t, "P9.2", "Rename onto no name", d.Rename("c", ""), api.ErrDiskName)
	names(t, "P9.2", d, "c")
}

func TestRemove(t *testing.T) {
	d := vault.New(1)
	ok(t, d, made("a"), wrote("a", 0, "x"), made("b"))
	is(t, "P9.2", "Write onto a full disk", d.Write("b", 0, nil), api.ErrFull)
	is(t, "P9.2", "Remove of no file", d.Remove("c"), api.ErrDiskNone)
	ok(t, d, removed("a"))
	is(t, "P9.2", "Remove of a file that is gone", d.Remove("a"), api.ErrDiskNone)
	is(t, "P9.2", "Sync of a file that is gone", d.Sync("a"), api.ErrDiskNone)
	is(t, "P9.2", "Sync of no name", d.Sync(""), api.ErrDiskNone)
	ok(t, d, wrote("b", 0, "y"), synced("b"))
	has(t, "P9.2", d, "b", "y")
}

// P9.2, P9.3: which error is told where several would hold; and what is no call that would be OK is not counted.
func TestWhichError(t *testing.T) {
	d := vault.New(1)
	ok(t, d, made("a"), wrote("a", 0, "x"))
	d.Deny(1)
	d.Arm(1)
	long, name := make([]byte, 513), strings.Repeat("n", 61)
	is(t, "P9.2", "Write of no file, beyond it", d.Write("b", 9, long), api.ErrDiskNone)
	is(t, "P9.2", "Write of too many bytes onto a full disk", d.Write("a", 1, long), api.ErrDiskPlace)
	is(t, "P9.2", "Write beyond a file on a full disk", d.Write("a", 2, nil), api.ErrDiskPlace)
	is(t, "P9.3", "Write onto a full disk that denies", d.Write("a", 1, nil), api.ErrFull)
	is(t, "P9.2", "Rename of no file onto no name", d.Rename("b", name), api.ErrDiskNone)
	is(t, "P9.3", "Rename onto no name", d.Rename("a", name), api.ErrDiskName)
	is(t, "P9.3", "Rename onto itself", d.Rename("a", "a"), api.OK)
	is(t, "P9.3", "Create of no name", d.Create(""), api.ErrDiskName)
	is(t, "P9.3", "Remove of no file", d.Remove("b"), api.ErrDiskNone)
	is(t, "P9.3", "Sync of no file", d.Sync("b"), api.ErrDiskNone)
	has(t, "P9.3", d, "a", "x")
	is(t, "P9.3", "Sync that is denied", d.Sync("a"), api.ErrIO)
	is(t, "P9.3", "Sync at which the disk dies", d.Sync("a"), api.ErrDiskDead)
	if !d.Dead() {
		t.Fatal("P9.3: not dead")
	}
	for _, c := range []call{made("c"), made(""), wrote("a", 0, "y"), wrote("b", 0, ""), wrote("a", -1, ""), {kind: write, name: "a", b: long}, wrote("a", 1, ""), renamed("a", "b"), renamed("a", "a"), renamed("b", ""), renamed("a", ""), removed("a"), removed("b"), synced("a"), synced("b"), namesSynced} {
		d.Deny(1)
		is(t, "P9.2", c.String()+" of a dead disk", c.do(d), api.ErrDiskDead)
	}
	for _, n := range []int{0, -1, 1} {
		for _, name := range []string{"a", "b"} {
			b, e := d.Read(name, n)
			is(t, "P9.2", "Read of a dead disk", e, api.ErrDiskDead)
			if b != nil {
				t.Error("P9.2: bytes beside an error")
			}
		}
	}
	names(t, "P9.1", d, "a")
	if d.Size("a") != 1 || d.Used() != 1 {
		t.Error("P9.2: something has changed on a dead disk")
	}
}

// stand is a disk with a file that lasts, with one sector that does and two that do not, and a name that does not.
func stand(t *testing.T) *vault.Disk {
	t.Helper()
	d := vault.New(9)
	ok(t, d, made("a"), wrote("a", 0, "old"), synced("a"), namesSynced)
	ok(t, d, wrote("a", 0, "new!"), wrote("a", 1, "one"), made("b"))
	return d
}

// everyCall is OK on stand, each alone.
func everyCall() []call {
	return []call{made("c"), made("a"), wrote("a", 0, "again"), wrote("a", 2, "two"), synced("a"), renamed("a", "c"), renamed("a", "b"), removed("a"), namesSynced}
}

func TestDeny(t *testing.T) {
	for _, c := range everyCall() {
		d := stand(t)
		d.Deny(1)
		if c.kind != write && c.kind != sync {
			is(t, "P9.3", c.String()+", which is not denied", c.do(d), api.OK)
			ok(t, d, made("w"))
			is(t, "P9.3", "a Write behind it", d.Write("w", 0, nil), api.ErrIO)
			continue
		}
		is(t, "P9.3", c.String(), c.do(d), api.ErrIO)
		has(t, "P9.3", d, "a", "new!", "one")
		has(t, "P9.3", d.Crash(0, nil), "a", "old")
		has(t, "P9.3", d.Crash(0, []int{512, 512, 512}), "a", "new!", "one")
		is(t, "P9.3", c.String()+" again", c.do(d), api.OK)
	}
	for k := 1; k <= 4; k++ {
		d := stand(t)
		d.Deny(k)
		l := []call{wrote("a", 0, "x"), synced("a"), wrote("a", 1, "x"), synced("b"), synced("a"), wrote("b", 0, "x")}
		for i, c := range l {
			ok(t, d, namesSynced, made("c"))
			want := api.OK
			if i == k-1 {
				want = api.ErrIO
			}
			is(t, "P9.3", "Deny("+strconv.Itoa(k)+"), "+c.String(), c.do(d), want)
		}
	}
}

func TestArm(t *testing.T) {
	for _, c := range everyCall() {
		d, done, not := stand(t), stand(t), stand(t)
		d.Arm(1)
		is(t, "P9.3", c.String(), c.do(d), api.ErrDiskDead)
		want := not
		if c.kind != sync && c.kind != syncNames {
			ok(t, done, c)
			want = done
		}
		if !d.Dead() || want.Dead() {
			t.Errorf("P9.3: %v: not dead", c)
		}
		names(t, "P9.3", d, want.Names()...)
		for _, many := range []int{0, 1, 2, 3} {
			for _, picks := range [][]int{nil, {2, 2, 2, 2}, {512, 512, 512, 512}} {
				got, want := d.Crash(many, picks), want.Crash(many, picks)
				names(t, "P9.3", got, want.Names()...)
				for _, name := range want.Names() {
					var l []string
					for n := range want.Size(name) {
						b, _ := want.Read(name, n)
						l = append(l, string(bytes.TrimRight(b, "\x00")))
					}
					has(t, "P9.3", got, name, l...)
				}
			}
		}
	}
	for k := 1; k <= 6; k++ {
		d := stand(t)
		d.Arm(k)
		for i, c := range []call{wrote("a", 0, "x"), made("c"), synced("a"), renamed("a", "d"), namesSynced, removed("d")} {
			is(t, "P9.3", "Read", func() api.Errno { _, e := d.Read("none", 0); return e }(), api.ErrDiskNone)
			if i == k-1 {
				is(t, "P9.3", "Arm("+strconv.Itoa(k)+"), "+c.String(), c.do(d), api.ErrDiskDead)
				break
			}
			ok(t, d, c)
		}
		if !d.Dead() {
			t.Errorf("P9.3: Arm(%d): not dead", k)
		}
	}
}

// P9.3: Deny counts ahead of Arm, and what is denied does not count for Arm.
func TestDenyAheadOfArm(t *testing.T) {
	for _, r := range []struct {
		deny, arm int
		want      []api.Errno
	}{
		{1, 1, []api.Errno{api.ErrIO, api.ErrDiskDead}},
		{2, 1, []api.Errno{api.ErrDiskDead, api.ErrDiskDead}},
		{2, 2, []api.Errno{api.OK, api.ErrIO, api.ErrDiskDead}},
		{1, 2, []api.Errno{api.ErrIO, api.OK, api.ErrDiskDead}},
		{3, 3, []api.Errno{api.OK, api.OK, api.ErrIO, api.ErrDiskDead}},
		{0, 2, []api.Errno{api.OK, api.ErrDiskDead}},
		{2, 0, []api.Errno{api.OK, api.ErrIO, api.OK, api.OK}},
		{0, 0, []api.Errno{api.OK, api.OK, api.OK}},
		{-1, math.MinInt, []api.Errno{api.OK, api.OK, api.OK}},
		{math.MinInt, -1, []api.Errno{api.OK, api.OK, api.OK}},
		{math.MaxInt, math.MaxInt, []api.Errno{api.OK, api.OK, api.OK}},
	} {
		for _, armFirst := range []bool{false, true} {
			d := stand(t)
			if armFirst {
				d.Arm(r.arm)
			}
			d.Deny(r.deny)
			if !armFirst {
				d.Arm(r.arm)
			}
			for i, want := range r.want {
				is(t, "P9.3", "Deny("+strconv.Itoa(r.deny)+"), Arm("+strconv.Itoa(r.arm)+"), call "+strconv.Itoa(i), d.Write("a", 0, nil), want)
			}
		}
	}
}

// P9.3: Deny and Arm count from now on, whatever was asked for earlier.
func TestAgain(t *testing.T) {
	d := stand(t)
	d.Deny(2)
	d.Arm(3)
	ok(t, d, wrote("a", 0, "x"))
	d.Deny(2)
	d.Arm(2)
	ok(t, d, wrote("a", 0, "y"))
	is(t, "P9.3", "the second Write", d.Write("a", 0, nil), api.ErrIO)
	d.Arm(0)
	ok(t, d, wrote("a", 0, "z"), synced("a"), namesSynced)
	d.Deny(1)
	d.Deny(0)
	ok(t, d, wrote("a", 0, "z"))
}

// P9.4: what a crash leaves is neither dead, nor armed, nor denied, though the disk is.
func TestCrashIsAlive(t *testing.T) {
	d := stand(t)
	d.Deny(1)
	d.Arm(1)
	left := d.Crash(9, nil)
	ok(t, left, wrote("a", 0, "x"), synced("a"), made("c"), namesSynced)
	is(t, "P9.4", "Write of the disk itself", d.Write("a", 0, nil), api.ErrIO)
	is(t, "P9.4", "Write of the disk itself", d.Write("a", 0, nil), api.ErrDiskDead)
	left = d.Crash(9, nil)
	if left.Dead() || !d.Dead() {
		t.Error("P9.4: what is left is dead, or the disk is not")
	}
	ok(t, left, wrote("a", 0, "x"), synced("a"), made("c"), namesSynced)
}

// P9.4: the names, from none to more than there are.
func TestCrashNames(t *testing.T) {
	d := vault.New(9)
	ok(t, d, made("a"), wrote("a", 0, "a"), synced("a"), made("b"), wrote("b", 0, "b"), synced("b"), namesSynced)
	ok(t, d, made("c"), renamed("a", "b"), renamed("b", "b"), removed("c"), made("b"), wrote("b", 0, "B"), synced("b"), renamed("b", "a"), removed("a"))
	for many, want := range map[int]map[string]string{
		math.MinInt: {"a": "a", "b": "b"}, -1: {"a": "a", "b": "b"}, 0: {"a": "a", "b": "b"},
		1: {"a": "a", "b": "b", "c": ""}, 2: {"b": "a", "c": ""}, 3: {"b": "a"}, 4: {"b": "B"}, 5: {"a": "B"}, 6: {}, 7: {}, math.MaxInt: {},
	} {
		left := d.Crash(many, []int{512})
		names(t, "P9.4", left, slices.Sorted(maps.Keys(want))...)
		used := 0
		for name, s := range want {
			if s == "" {
				has(t, "P9.4", left, name)
				continue
			}
			has(t, "P9.4", left, name, s)
			used++
		}
		if left.Used() != used {
			t.Errorf("P9.4: %d used behind Crash(%d)", left.Used(), many)
		}
	}
	ok(t, d, namesSynced)
	names(t, "P9.4", d.Crash(0, nil))
	names(t, "P9.4", d.Crash(9, nil))
}

// P9.4: the picks, of sectors that last and of such as never did.
func TestCrashPicks(t *testing.T) {
	d := vault.New(9)
	old, now := strings.Repeat("o", 512), strings.Repeat("n", 512)
	ok(t, d, made("a"), wrote("a", 0, old), wrote("a", 1, "stays"), wrote("a", 2, "old"), synced("a"), namesSynced)
	ok(t, d, wrote("a", 2, "never"), wrote("a", 0, now), wrote("a", 2, "NE"), wrote("a", 3, "three"), wrote("a", 4, "four"))
	for _, r := range []struct {
		picks []int
		want  []string
	}{
		{nil, []string{old, "stays", "old"}},
		{[]int{0, -1, math.MinInt, 0, 512, 512}, []string{old, "stays", "old"}},
		{[]int{1}, []string{"n" + old[1:], "stays", "old"}},
		{[]int{2}, []string{"nn" + old[2:], "stays", "old"}},
		{[]int{511}, []string{now[1:] + "o", "stays", "old"}},
		{[]int{512}, []string{now, "stays", "old"}},
		{[]int{513}, []string{now, "stays", "old"}},
		{[]int{math.MaxInt}, []string{now, "stays", "old"}},
		{[]int{0, 1}, []string{old, "stays", "Nld"}},
		{[]int{0, 3}, []string{old, "stays", "NE"}},
		{[]int{0, 512}, []string{old, "stays", "NE"}},
		{[]int{0, 0, 3}, []string{old, "stays", "old", "thr"}},
		{[]int{0, 0, 512}, []string{old, "stays", "old", "three"}},
		{[]int{0, 0, 0, 1}, []string{old, "stays", "old", "", "f"}},
		{[]int{512, 512, 512, 512}, []string{now, "stays", "NE", "three", "four"}},
		{[]int{3, 2, 1, 511, 9, 9, 9}, []string{"nnn" + old[3:], "stays", "NEd", "t", "four"}},
	} {
		left := d.Crash(0, r.picks)
		has(t, "P9.4", left, "a", r.want...)
		has(t, "P9.4", left.Crash(0, nil), "a", r.want...)
		has(t, "P9.4", left.Crash(5, []int{1, 1, 1, 1}), "a", r.want...)
		if left.Used() != len(r.want) {
			t.Errorf("P9.4: %d used behind picks %v", left.Used(), r.picks)
		}
	}
	has(t, "P9.4", d, "a", now, "stays", "NE", "three", "four")
}

// P9.4: a sector that never lasted, with and without a later one of its file, be it that the later one has but bytes 0.
func TestCrashHoles(t *testing.T) {
	d := vault.New(9)
	ok(t, d, made("a"), wrote("a", 0, "x"), wrote("a", 1, "y"), wrote("a", 2, ""), namesSynced)
	for _, r := range []struct {
		picks []int
		want  []string
	}{
		{nil, nil}, {[]int{0, 0, 0}, nil}, {[]int{1}, []string{"x"}}, {[]int{0, 1}, []string{"", "y"}}, {[]int{0, 0, 1}, []string{"", "", ""}}, {[]int{512, 0, 512}, []string{"x", "", ""}},
	} {
		left := d.Crash(0, r.picks)
		has(t, "P9.4", left, "a", r.want...)
		// What was a hole lasts, as all does.
		has(t, "P9.4", left.Crash(0, nil), "a", r.want...)
		ok(t, left, wrote("a", len(r.want), "more"))
		has(t, "P9.4", left.Crash(0, nil), "a", r.want...)
		has(t, "P9.4", left.Crash(0, []int{2}), "a", append(slices.Clone(r.want), "mo")...)
	}
}

// P9.4: picks go file by file as the files were created, whatever their names are, and whether they have one.
func TestCrashFiles(t *testing.T) {
	for _, syncs := range []bool{false, true} {
		d := vault.New(9)
		ok(t, d, made("z"), made("y"), made("x"), wrote("y", 0, "y0"), wrote("y", 1, "y1"), wrote("x", 0, "x0"), wrote("z", 0, "z0"), made("w"), wrote("w", 0, "w0"))
		ok(t, d, renamed("x", "a"), removed("y"), made("w"), wrote("w", 0, "W0"), synced("w"), wrote("w", 0, "W1"))
		if syncs {
			ok(t, d, namesSynced)
		}
		// The files are z, the removed y, a, the w that has its name no more, and w.
		for _, r := range []struct {
			picks   []int
			z, a, w []string
		}{
			{nil, nil, nil, []string{"W0"}},
			{[]int{512}, []string{"z0"}, nil, []string{"W0"}},
			{[]int{0, 512, 512}, nil, nil, []string{"W0"}},
			{[]int{0, 0, 0, 512}, nil, []string{"x0"}, []string{"W0"}},
			{[]int{0, 0, 0, 0, 512}, nil, nil, []string{"W0"}},
			{[]int{0, 0, 0, 0, 0, 512}, nil, nil, []string{"W1"}},
			{[]int{1, 0, 0, 1, 0, 512, 512}, []string{"z"}, []string{"x"}, []string{"W1"}},
		} {
			left := d.Crash(99, r.picks)
			names(t, "P9.4", left, "a", "w", "z")
			has(t, "P9.4", left, "z", r.z...)
			has(t, "P9.4", left, "a", r.a...)
			has(t, "P9.4", left, "w", r.w...)
		}
		if !syncs {
			left := d.Crash(5, []int{1, 2, 1, 512, 2})
			names(t, "P9.4", left, "a", "w", "y", "z")
			has(t, "P9.4", left, "y", "y0", "y")
			has(t, "P9.4", left, "w", "w0")
		}
		// The files that a crash leaves are as they were created, too.
		left := d.Crash(99, nil)
		ok(t, left, wrote("a", 0, "A"), wrote("z", 0, "Z"), made("b"), wrote("b", 0, "B"), namesSynced)
		for i, name := range []string{"z", "a", "b"} {
			picks := make([]int, 4)
			picks[i] = 512
			has(t, "P9.4", left.Crash(0, picks), name, strings.ToUpper(name))
		}
	}
}

// P9.4: the disk stays as it is when Crash is asked, and neither is seen at the other afterwards.
func TestCrashApart(t *testing.T) {
	d := stand(t)
	picks := []int{2, 512}
	left := d.Crash(9, picks)
	if !slices.Equal(picks, []int{2, 512}) {
		t.Error("P9.4: the picks are changed")
	}
	ok(t, left, wrote("a", 0, "left"), wrote("b", 0, "left"), synced("a"), removed("b"), made("l"), namesSynced)
	names(t, "P9.4", d, "a", "b")
	has(t, "P9.4", d, "a", "new!", "one")
	has(t, "P9.4", d, "b")
	has(t, "P9.4", d.Crash(0, nil), "a", "old")
	ok(t, d, wrote("a", 0, "disk"), wrote("a", 1, "disk"), synced("a"), removed("a"), namesSynced)
	names(t, "P9.4", left, "a", "l")
	has(t, "P9.4", left, "a", "left", "one")
	has(t, "P9.4", left.Crash(0, nil), "a", "left", "one")
}

// P9.2, R6: what Read told, and what Write was given, is the caller's own.
func TestOwn(t *testing.T) {
	d := vault.New(9)
	b := []byte(strings.Repeat("g", 512))
	ok(t, d, made("a"), call{kind: write, name: "a", b: b}, call{kind: write, name: "a", n: 1, b: b})
	for _, last := range []bool{false, true} {
		if last {
			ok(t, d, synced("a"), namesSynced)
		}
		left := d.Crash(9, []int{512, 512})
		for k := range b {
			b[k] = '?'
		}
		for _, one := range []*vault.Disk{d, left} {
			r, _ := one.Read("a", 0)
			for k := range r {
				r[k] = '!'
			}
			_ = append(r, 'n', 'n')
			l := one.Names()
			l[0] = "?"
		}
		for _, one := range []*vault.Disk{d, left, d.Crash(9, []int{512, 512})} {
			has(t, "R6", one, "a", strings.Repeat("g", 512), strings.Repeat("g", 512))
			names(t, "R6", one, "a")
		}
	}
	b = []byte("stays")
	ok(t, d, call{kind: write, name: "a", b: b[:2]})
	if string(b) != "stays" {
		t.Error("R5: what was given is changed")
	}
}

// P9.5: what lasts is found behind any crash, but for sectors that were written since; and whatever names are found, each is one that the disk had at some time since they last lasted. Here each file says of itself which one it is, in a sector that lasts and is not written any more.
func TestWhatFollows(t *testing.T) {
	type tagged map[string]string
	told := func(d *vault.Disk) tagged {
		all := tagged{}
		for _, name := range d.Names() {
			b, _ := d.Read(name, 0)
			all[name] = string(bytes.TrimRight(b, "\x00"))
		}
		return all
	}
	changes := []call{made("a"), made("b"), renamed("a", "b"), renamed("b", "a"), renamed("b", "c"), removed("a"), namesSynced}
	eachRow(changes, 4, func(row []call) {
		d := vault.New(99)
		ok(t, d, made("a"), wrote("a", 0, "first"), synced("a"), namesSynced)
		since := []tagged{told(d)}
		for i, c := range row {
			e := c.do(d)
			if c.kind == create {
				ok(t, d, wrote(c.name, 0, strconv.Itoa(i)), synced(c.name), wrote(c.name, 1, "since"))
			}
			switch {
			case c.kind == syncNames:
				since = []tagged{told(d)}
			case e == api.OK:
				since = append(since, told(d))
			}
		}
		for many := -1; many <= len(row)+1; many++ {
			for _, picks := range pickings() {
				found := told(d.Crash(many, picks))
				want := since[min(max(many, 0), len(since)-1)]
				if !maps.Equal(found, want) {
					t.Fatalf("P9.5: behind %v, Crash(%d, %v) has %v, not %v", row, many, picks, found, want)
				}
			}
		}
	})
}

// The chapter's examples.
func TestExamples(t *testing.T) {
	d := vault.New(9)
	ok(t, d, made("a"), wrote("a", 0, "x"), namesSynced)
	has(t, "P9.4", d.Crash(0, nil), "a")
	ok(t, d, synced("a"), renamed("a", "b"))
	names(t, "P9.4", d.Crash(0, nil), "a")
	names(t, "P9.4", d.Crash(1, nil), "b")
	has(t, "P9.4", d.Crash(1, nil), "b", "x")
	// Of DOC.md: a sector that was written, not synced, and torn behind its second byte.
	ok(t, d, wrote("b", 0, "ABCD"), synced("b"), wrote("b", 0, "efgh"))
	has(t, "P9.4", d.Crash(1, []int{2}), "b", "efCD")
}
