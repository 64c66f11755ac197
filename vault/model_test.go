package vault_test

import (
	"bytes"
	"maps"
	"math/rand"
	"slices"
	"strconv"
	"strings"
	"testing"

	"incunable/api"
	"incunable/vault"
)

// The promises said anew: of a disk that keeps every file it ever had, and all names as they were behind each change.

// The calls that change something.
const (
	create = iota
	write
	sync
	rename
	remove
	syncNames
)

// call is one of them; to is a Rename's.
type call struct {
	kind     int
	name, to string
	n        int
	b        []byte
}

func (c call) do(d *vault.Disk) api.Errno {
	switch c.kind {
	case create:
		return d.Create(c.name)
	case write:
		return d.Write(c.name, c.n, c.b)
	case sync:
		return d.Sync(c.name)
	case rename:
		return d.Rename(c.name, c.to)
	case remove:
		return d.Remove(c.name)
	}
	return d.SyncNames()
}

func (c call) String() string {
	name, to := strconv.Quote(c.name), strconv.Quote(c.to)
	switch c.kind {
	case create:
		return "Create(" + name + ")"
	case write:
		return "Write(" + name + ", " + strconv.Itoa(c.n) + ", " + strconv.Itoa(len(c.b)) + " bytes)"
	case sync:
		return "Sync(" + name + ")"
	case rename:
		return "Rename(" + name + ", " + to + ")"
	case remove:
		return "Remove(" + name + ")"
	}
	return "SyncNames()"
}

func told(l []call) string {
	var s []string
	for _, c := range l {
		s = append(s, c.String())
	}
	return strings.Join(s, ", ")
}

// part is a sector: as it is, as it last lasted (nil, if it never did), and whether it was written since.
type part struct {
	is, lasted []byte
	since      bool
}

// model's names are those that last, and those behind each change since.
type model struct {
	room         int
	files        [][]part
	names        []map[string]int
	deny, ios    int
	arm, changes int
	dead         bool
}

func newModel(room int) *model {
	return &model{room: min(max(room, 0), 65536), names: []map[string]int{{}}}
}

func (m *model) now() map[string]int { return m.names[len(m.names)-1] }

func (m *model) used() int {
	used := 0
	for _, f := range m.now() {
		used += len(m.files[f])
	}
	return used
}

// wrong says of P9.2 which error is told.
func (m *model) wrong(c call) api.Errno {
	f, is := m.now()[c.name]
	switch c.kind {
	case syncNames:
		return api.OK
	case create:
		if len(c.name) < 1 || len(c.name) > 60 {
			return api.ErrDiskName
		}
		return api.OK
	}
	if !is {
		return api.ErrDiskNone
	}
	if c.kind == rename && (len(c.to) < 1 || len(c.to) > 60) {
		return api.ErrDiskName
	}
	if c.kind == write {
		size := len(m.files[f])
		if c.n < 0 || c.n > size || len(c.b) > 512 {
			return api.ErrDiskPlace
		}
		if c.n == size && m.used() >= m.room {
			return api.ErrFull
		}
	}
	return api.OK
}

// do says P9.2 and P9.3 anew.
func (m *model) do(c call) api.Errno {
	if m.dead {
		return api.ErrDiskDead
	}
	if e := m.wrong(c); e != api.OK {
		return e
	}
	if c.kind == rename && c.name == c.to {
		return api.OK
	}
	if c.kind == write || c.kind == sync {
		m.ios++
		if m.ios == m.deny {
			return api.ErrIO
		}
	}
	m.changes++
	m.dead = m.changes == m.arm
	if !m.dead {
		m.done(c)
		return api.OK
	}
	if c.kind != sync && c.kind != syncNames {
		m.done(c)
	}
	return api.ErrDiskDead
}

func (m *model) done(c call) {
	names := maps.Clone(m.now())
	f := names[c.name]
	switch c.kind {
	case write:
		b := append(slices.Clone(c.b), make([]byte, 512-len(c.b))...)
		if c.n == len(m.files[f]) {
			m.files[f] = append(m.files[f], part{})
		}
		m.files[f][c.n].is, m.files[f][c.n].since = b, true
		return
	case sync:
		for n, p := range m.files[f] {
			m.files[f][n] = part{is: p.is, lasted: p.is}
		}
		return
	case syncNames:
		m.names = []map[string]int{names}
		return
	case create:
		m.files = append(m.files, nil)
		names[c.name] = len(m.files) - 1
	case rename:
		names[c.to] = f
		delete(names, c.name)
	case remove:
		delete(names, c.name)
	}
	m.names = append(m.names, names)
}

// crash says P9.4 anew.
func (m *model) crash(names int, picks []int) *model {
	left := newModel(m.room)
	left.names[0] = maps.Clone(m.names[min(max(names, 0), len(m.names)-1)])
	for _, f := range m.files {
		var parts []part
		there := 0
		for n, p := range f {
			is := p.lasted
			if p.since {
				pick := 0
				if len(picks) > 0 {
					pick, picks = picks[0], picks[1:]
				}
				if pick >= 1 {
					is = append(slices.Clone(p.is[:min(pick, 512)]), append(slices.Clone(p.lasted), make([]byte, 512)...)[min(pick, 512):512]...)
				}
			}
			if is != nil {
				there = n + 1
			} else {
				is = make([]byte, 512)
			}
			parts = append(parts, part{is: is, lasted: is})
		}
		left.files = append(left.files, parts[:there])
	}
	return left
}

// held tells what of a disk is otherwise than the model says; nothing, if nothing is. It writes into all that the disk tells.
func (m *model) held(d *vault.Disk) string {
	want := slices.Sorted(maps.Keys(m.now()))
	got := d.Names()
	if !slices.Equal(got, want) || d.Used() != m.used() || d.Dead() != m.dead {
		return "Names " + strings.Join(got, " ") + ", Used " + strconv.Itoa(d.Used()) + ", not " + strings.Join(want, " ") + ", " + strconv.Itoa(m.used())
	}
	for k := range got {
		got[k] = "?"
	}
	if d.Size("no such") != -1 || d.Size("") != -1 {
		return "a Size of no file"
	}
	for _, name := range want {
		f := m.files[m.now()[name]]
		if d.Size(name) != len(f) {
			return "Size of " + name + " " + strconv.Itoa(d.Size(name)) + ", not " + strconv.Itoa(len(f))
		}
		for n := -1; n <= len(f); n++ {
			b, e := d.Read(name, n)
			switch in := n >= 0 && n < len(f); {
			case m.dead:
				if b != nil || e != api.ErrDiskDead {
					return "Read of a dead disk"
				}
			case !in:
				if b != nil || e != api.ErrDiskPlace {
					return "Read of " + name + " beyond it"
				}
			case e != api.OK || !bytes.Equal(b, f[n].is):
				return "Read of " + name + " at " + strconv.Itoa(n)
			}
			for k := range b {
				b[k] ^= 0xff
			}
		}
	}
	return ""
}

// pair is a disk and its model.
type pair struct {
	d *vault.Disk
	m *model
}

func newPair(room int) pair { return pair{vault.New(room), newModel(room)} }

func (p pair) crash(names int, picks []int) pair {
	return pair{p.d.Crash(names, picks), p.m.crash(names, picks)}
}

// holds lets a call be done, with bytes that are written over behind it.
func (p pair) holds(t *testing.T, c call) {
	t.Helper()
	want := p.m.do(c)
	c.b = slices.Clone(c.b)
	if got := c.do(p.d); got != want {
		t.Fatalf("P9.2, P9.3: %v is %d, not %d", c, got, want)
	}
	for k := range c.b {
		c.b[k] ^= 0xff
	}
}

// pickings are rows of picks: too few, too many, and each kind of pick at each of the first places.
func pickings() [][]int {
	l := [][]int{nil, {-1, 512, -1, 512, -1, 512}, {7, 7, 7, 7, 7, 7, 7, 7, 7}}
	for _, pick := range []int{1, 511, 512} {
		l = append(l, []int{pick}, []int{0, pick}, []int{0, 0, pick}, []int{513, 0, pick, 2})
	}
	return l
}

// eachRow gives all rows of so many calls.
func eachRow(calls []call, many int, yield func([]call)) {
	row := make([]call, many)
	var lay func(k int)
	lay = func(k int) {
		if k == many {
			yield(row)
			return
		}
		for _, c := range calls {
			row[k] = c
			lay(k + 1)
		}
	}
	lay(0)
}

// someCalls are on two names; of the Writes each has other bytes.
func someCalls() []call {
	return []call{
		{kind: create, name: "a"}, {kind: create, name: "b"},
		{kind: write, name: "a", b: bytes.Repeat([]byte{'x'}, 512)}, {kind: write, name: "a", n: 1, b: bytes.Repeat([]byte{'y'}, 9)}, {kind: write, name: "b", b: []byte("z")},
		{kind: sync, name: "a"}, {kind: sync, name: "b"},
		{kind: rename, name: "a", to: "b"}, {kind: rename, name: "b", to: "a"}, {kind: rename, name: "a", to: "a"},
		{kind: remove, name: "a"}, {kind: syncNames},
	}
}

// crashes holds all crashes of a pair, and that the disk stays as it is.
func crashes(t *testing.T, p pair, row []call) {
	t.Helper()
	for names := -1; names <= len(p.m.names); names++ {
		for _, picks := range pickings() {
			left := p.crash(names, picks)
			if s := left.m.held(left.d); s != "" {
				t.Fatalf("P9.4: behind %s, Crash(%d, %v): %s", told(row), names, picks, s)
			}
		}
	}
	if s := p.m.held(p.d); s != "" {
		t.Fatalf("P9.4: behind %s and its crashes: %s", told(row), s)
	}
}

// P9.2, P9.4: every short row of calls, on a file that lasts and on a disk that has none, with room for few sectors and for more.
func TestEveryRow(t *testing.T) {
	outset := []call{{kind: create, name: "a"}, {kind: write, name: "a", b: []byte("old")}, {kind: sync, name: "a"}, {kind: syncNames}}
	for _, first := range [][]call{nil, outset} {
		for _, room := range []int{2, 9} {
			eachRow(someCalls(), 3, func(row []call) {
				p := newPair(room)
				for _, c := range first {
					p.holds(t, c)
				}
				for _, c := range row {
					p.holds(t, c)
				}
				if s := p.m.held(p.d); s != "" {
					t.Fatalf("P9.2: behind %s: %s", told(row), s)
				}
				crashes(t, p, row)
			})
		}
	}
}

// P9.3: every short row of calls on a disk that is armed, and denies, in each order.
func TestEveryRowArmed(t *testing.T) {
	eachRow(someCalls(), 3, func(row []call) {
		for arm := 0; arm <= 3; arm++ {
			for deny := 0; deny <= 2; deny++ {
				p := newPair(9)
				for _, c := range []call{{kind: create, name: "a"}, {kind: write, name: "a", b: []byte("old")}} {
					p.holds(t, c)
				}
				p.d.Deny(deny)
				p.d.Arm(arm)
				p.m.deny, p.m.ios, p.m.arm, p.m.changes = deny, 0, arm, 0
				for _, c := range row {
					p.holds(t, c)
				}
				for _, left := range []pair{p, p.crash(0, nil), p.crash(1, []int{3, 512}), p.crash(9, []int{512, 512})} {
					if s := left.m.held(left.d); s != "" {
						t.Fatalf("P9.3: Deny(%d), Arm(%d), %s: %s", deny, arm, told(row), s)
					}
				}
			}
		}
	})
}

// chance is a source of calls.
type chance struct{ *rand.Rand }

func (r chance) name() string {
	l := []string{"a", "b", "c", "d", "a", "b", "c", "d", "", strings.Repeat("n", 60), strings.Repeat("n", 61)}
	return l[r.Intn(len(l))]
}

func (r chance) bytes() []byte {
	l := []int{0, 1, 5, 511, 512, 512, 513}
	b := make([]byte, l[r.Intn(len(l))])
	r.Read(b)
	return b
}

func (r chance) call(m *model) call {
	c := call{kind: r.Intn(20), name: r.name(), to: r.name()}
	if c.kind > syncNames {
		c.kind = write + c.kind%2
	}
	if c.kind == write {
		size := 0
		if f, is := m.now()[c.name]; is {
			size = len(m.files[f])
		}
		c.n, c.b = size-r.Intn(4), r.bytes()
		if r.Intn(20) == 0 {
			c.n = size + 1
		}
	}
	return c
}

func (r chance) picks() []int {
	var l []int
	for range r.Intn(30) {
		l = append(l, []int{-3, 0, 1, 2, 100, 511, 512, 513, 1 << 40}[r.Intn(9)])
	}
	return l
}

// set arms or denies, mostly neither.
func (r chance) set(p pair) {
	k := r.Intn(60) - 10
	switch r.Intn(20) {
	case 0:
		p.d.Arm(k)
		p.m.arm, p.m.changes = k, 0
	case 1, 2:
		p.d.Deny(k)
		p.m.deny, p.m.ios = k, 0
	}
}

// P9.1 to P9.4: long rows of calls on several disks, of which each but the first one is what a crash of another left; all of them go on.
func TestLongRows(t *testing.T) {
	for seed := range 60 {
		r := chance{rand.New(rand.NewSource(int64(seed)))}
		all := []pair{newPair(r.Intn(40))}
		for range 1500 {
			p := all[r.Intn(len(all))]
			r.set(p)
			p.holds(t, r.call(p.m))
			if r.Intn(25) > 0 {
				continue
			}
			left := p.crash(r.Intn(12)-2, r.picks())
			if len(all) < 5 {
				all = append(all, left)
			} else {
				all[r.Intn(len(all))] = left
			}
			for _, p := range all {
				if s := p.m.held(p.d); s != "" {
					t.Fatalf("P9.4: of the row %d: %s", seed, s)
				}
			}
		}
		for _, p := range all {
			if s := p.m.held(p.d); s != "" {
				t.Fatalf("P9.2: of the row %d: %s", seed, s)
			}
		}
	}
}
