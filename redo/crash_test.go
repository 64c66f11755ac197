package redo_test

import (
	"math/rand"
	"slices"
	"sort"
	"strconv"
	"testing"

	"incunable/api"
	"incunable/redo"
	"incunable/vault"
)

// P10.3 said anew: of a log it is noted which records last for sure, and which perhaps, and each crash is held against that.

// The calls.
const (
	opens = iota
	appends
	flushes
	resets
)

// call is one of them, with an Append's record, or all of a Reset's.
type call struct {
	kind    int
	records []string
}

func (c call) String() string {
	switch c.kind {
	case opens:
		return "Open"
	case appends:
		return "Append" + short(c.records)
	case flushes:
		return "Flush"
	}
	return "Reset" + short(c.records)
}

func told(row []call) string {
	s := ""
	for _, c := range row {
		s += c.String() + ", "
	}
	return s
}

// world is a disk, the log that is open on it, if one is, and what both should tell. There says that a log was opened once, and lasted are the records that last for sure then; perhaps are those that may be found in their stead.
type world struct {
	t       *testing.T
	what    string
	room    int
	d       *vault.Disk
	l       *redo.Log
	all     []string
	firm    int
	stuck   api.Errno
	there   bool
	denies  bool
	lasted  []string
	perhaps [][]string
}

func newWorld(t *testing.T, room int) *world {
	return &world{t: t, room: room, d: vault.New(room)}
}

func (w *world) fault(s string) {
	w.t.Helper()
	w.t.Fatalf("%s: %s", w.what, s)
}

// may says whether an error can be the disk's.
func (w *world) may(e api.Errno) bool {
	switch e {
	case api.ErrDiskDead:
		return w.d.Dead()
	case api.ErrIO:
		return w.denies
	}
	return e == api.ErrFull && w.room < 100
}

// found says whether records may be what lasts.
func (w *world) found(records []string) bool {
	return slices.Equal(records, w.lasted) || slices.ContainsFunc(w.perhaps, func(l []string) bool { return slices.Equal(l, records) })
}

// do does a call, and tells the error that it answered.
func (w *world) do(c call) api.Errno {
	e := api.OK
	switch {
	case c.kind == opens:
		e = w.open()
	case w.l == nil:
	case c.kind == appends:
		var n int
		n, e = w.l.Append(c.records[0])
		w.all = append(slices.Clone(w.all), c.records[0])
		if n != len(w.all) || e != api.OK {
			w.fault("P10.2: Append is " + strconv.Itoa(n) + ", " + strconv.Itoa(int(e)))
		}
	case c.kind == flushes:
		e = w.l.Flush()
		w.lay(e, w.all)
	default:
		e = w.l.Reset(c.records)
		w.lay(e, c.records)
	}
	w.holds()
	return e
}

// open opens the log; one that is there is told, though the disk may be about to refuse.
func (w *world) open() api.Errno {
	dead := w.d.Dead()
	l, e := redo.Open(w.d, "log")
	w.l, w.all, w.firm, w.stuck = l, nil, 0, api.OK
	if e != api.OK {
		if l != nil || !w.may(e) || w.there && !dead {
			w.fault("P10.1: Open is " + strconv.Itoa(int(e)))
		}
		return e
	}
	w.all = l.All()
	if dead || !w.found(w.all) {
		w.fault("P10.1: Open has " + short(w.all) + ", not " + short(w.lasted))
	}
	w.there, w.lasted, w.perhaps, w.firm = true, w.all, nil, len(w.all)
	return api.OK
}

// lay notes what a Flush or a Reset answered that was to let these records last.
func (w *world) lay(e api.Errno, records []string) {
	switch {
	case w.stuck != api.OK:
		if e != w.stuck {
			w.fault("P10.2: stuck with " + strconv.Itoa(int(w.stuck)) + ", but told " + strconv.Itoa(int(e)))
		}
	case e == api.OK:
		if w.d.Dead() {
			w.fault("P10.2: OK on a dead disk")
		}
		w.all, w.firm, w.lasted, w.perhaps = records, len(records), records, nil
	case !w.may(e):
		w.fault("P10.2: the error " + strconv.Itoa(int(e)))
	default:
		w.stuck = e
		if e != api.ErrFull {
			w.perhaps = append(w.perhaps, records)
		}
	}
}

func (w *world) holds() {
	if w.l == nil {
		return
	}
	if got := w.l.All(); !slices.Equal(got, w.all) {
		w.fault("P10.2: All are " + short(got) + ", not " + short(w.all))
	}
	if w.l.Len() != len(w.all) || w.l.Firm() != w.firm || w.l.Stuck() != w.stuck {
		w.fault("P10.2: Len " + strconv.Itoa(w.l.Len()) + ", Firm " + strconv.Itoa(w.l.Firm()) + ", Stuck " + strconv.Itoa(int(w.l.Stuck())))
	}
}

// crash is the world that a crash leaves, with its log not open yet.
func (w *world) crash(names int, picks []int) *world {
	left := *w
	left.d = w.d.Crash(names, picks)
	left.l, left.all, left.firm, left.stuck, left.denies = nil, nil, 0, api.OK, false
	return &left
}

// crashed holds a crash, and what it left when it is gone on with.
func (w *world) crashed(names int, picks []int) {
	left := w.crash(names, picks)
	left.what += ", Crash(" + strconv.Itoa(names) + ", " + told2(picks) + ")"
	left.do(call{kind: opens})
}

func told2(picks []int) string {
	s := "["
	for _, p := range picks {
		s += strconv.Itoa(p) + " "
	}
	return s + "]"
}

// pickings are rows of picks: sectors as they lasted, torn, and whole, one by one and together.
func pickings() [][]int {
	var l [][]int
	for _, a := range []int{0, 9, 512} {
		for _, b := range []int{0, 505, 512} {
			for _, c := range []int{0, 300, 512} {
				l = append(l, []int{a, b, c, c, c, c, c, c, c})
			}
		}
	}
	for _, tear := range []int{1, 4, 8, 12, 16, 496, 500, 504, 506, 508, 511} {
		l = append(l, slices.Repeat([]int{tear}, 9), []int{tear}, []int{0, tear})
	}
	return l
}

func (w *world) everyCrash(l [][]int) {
	for _, names := range []int{-1, 1, 99} {
		for _, picks := range l {
			w.crashed(names, picks)
		}
	}
}

// someCalls are those of the rows; each Append has another record.
func someCalls(place int) []call {
	mark := string(rune('a' + place))
	return []call{
		{kind: opens}, {kind: appends, records: []string{mark}}, {kind: appends, records: []string{mark + long(700)}}, {kind: flushes},
		{kind: resets}, {kind: resets, records: []string{"reset" + mark, mark + long(600)}},
	}
}

// eachRow gives all rows of so many calls.
func eachRow(many int, yield func([]call)) {
	row := make([]call, many)
	var lay func(k int)
	lay = func(k int) {
		if k == many {
			yield(row)
			return
		}
		for _, c := range someCalls(k) {
			row[k] = c
			lay(k + 1)
		}
	}
	lay(0)
}

// begun is a world in which a log is open, that has records or none; or in which nothing is on the disk yet.
func begun(t *testing.T, room, begin int) *world {
	w := newWorld(t, room)
	var row []call
	switch begin {
	case 1:
		row = []call{{kind: opens}}
	case 2:
		row = []call{{kind: opens}, {kind: appends, records: []string{"first"}}, {kind: appends, records: []string{long(480)}}, {kind: flushes}, {kind: opens}}
	}
	for _, c := range row {
		w.do(c)
	}
	return w
}

// eachRefusal does a row again and again, with the disk dying, or refusing, at each place of its last call; and with neither. It gives what is left of each.
func eachRefusal(t *testing.T, room, begin int, row []call, yield func(*world)) {
	t.Helper()
	last := row[len(row)-1]
	for _, set := range []string{"", "Arm", "Deny"} {
		for k := 1; ; k++ {
			w := begun(t, room, begin)
			for _, c := range row[:len(row)-1] {
				w.do(c)
			}
			w.what = told(row) + set + "(" + strconv.Itoa(k) + ") at the last one, room for " + strconv.Itoa(room)
			switch set {
			case "Arm":
				w.d.Arm(k)
			case "Deny":
				w.d.Deny(k)
				w.denies = true
			}
			e := w.do(last)
			yield(w)
			if !w.d.Dead() && e != api.ErrIO {
				break
			}
		}
	}
}

// P10.1 to P10.3: every short row of calls, each step of its last one refused, and each crash behind that.
func TestEveryRow(t *testing.T) {
	picks := pickings()
	for many := 1; many <= 3; many++ {
		eachRow(many, func(row []call) {
			for begin := range 3 {
				eachRefusal(t, 400, begin, row, func(w *world) { w.everyCrash(picks) })
			}
		})
	}
}

// P10.3: rows on disks with small rooms; what was wanting was room alone, or it was not.
func TestSmallRooms(t *testing.T) {
	picks := [][]int{nil, slices.Repeat([]int{512}, 9), slices.Repeat([]int{9}, 9), slices.Repeat([]int{505}, 9), {0, 512, 0, 512, 0}, {512, 0, 512, 0}}
	for room := range 9 {
		for many := 1; many <= 3; many++ {
			eachRow(many, func(row []call) {
				if many > 1 && row[0].kind == opens {
					return
				}
				begin := 0
				if room > 3 {
					begin = 2
				}
				eachRefusal(t, room, begin, row, func(w *world) { w.everyCrash(picks) })
			})
		}
	}
}

// P10.3: what goes on on the disk that refused: the log stays stuck, and one that is opened again is one that lasts.
func TestGoneOnWithout(t *testing.T) {
	picks := [][]int{nil, slices.Repeat([]int{512}, 9), {0, 512, 0, 512}, {512, 0, 512}}
	behind := []call{{kind: flushes}, {kind: resets}, {kind: opens}, {kind: appends, records: []string{"behind"}}, {kind: flushes}, {kind: opens}, {kind: resets, records: []string{"all"}}, {kind: opens}}
	for many := 1; many <= 2; many++ {
		eachRow(many, func(row []call) {
			for begin := range 3 {
				eachRefusal(t, 400, begin, row, func(w *world) {
					for _, c := range behind {
						w.do(c)
						w.what += ", behind that " + c.String()
						w.everyCrash(picks)
					}
				})
			}
		})
	}
}

// P10.3: so again: a row whose last call the disk does not outlive, what its crash left, opened, and another row on that, and so again.
func TestSoAgain(t *testing.T) {
	rows := [][]call{
		{{kind: opens}, {kind: appends, records: []string{"x"}}, {kind: flushes}},
		{{kind: opens}, {kind: appends, records: []string{long(1100)}}, {kind: flushes}},
		{{kind: opens}, {kind: resets, records: []string{"y", long(530)}}},
		{{kind: opens}},
	}
	left := [][]int{nil, slices.Repeat([]int{512}, 9), {9, 9, 9, 9, 9}, {505, 505, 505, 505}, {0, 512, 0}, {512, 0, 505}}
	var again func(w *world, deep int)
	again = func(w *world, deep int) {
		for _, row := range rows {
			for k := 1; k < 14; k++ {
				for _, picks := range left {
					next := w.crash(99-99*(k%2), nil)
					for _, c := range row[:len(row)-1] {
						next.do(c)
					}
					next.d.Arm(k)
					next.do(row[len(row)-1])
					next.what += ", " + told(row) + "Arm(" + strconv.Itoa(k) + "), " + told2(picks)
					for _, names := range []int{0, 99} {
						c := next.crash(names, picks)
						c.crash(0, nil).do(call{kind: opens})
						if deep > 1 && next.d.Dead() {
							again(c, deep-1)
						}
					}
				}
			}
		}
	}
	w := begun(t, 400, 2)
	again(w, 2)
}

// dies lets the disk die in the last change that a Flush makes.
func (w *world) dies() {
	k := sort.Search(1000, func(k int) bool {
		try := w.d.Crash(99, nil)
		l, _ := redo.Open(try, "log")
		for _, s := range w.all[w.firm:] {
			l.Append(s)
		}
		try.Arm(k + 1)
		l.Flush()
		return !try.Dead()
	})
	w.d.Arm(k)
	w.do(call{kind: flushes})
}

// P10.3: what was torn in a first crash does not make what is torn in a second one look whole. Some lengths differ by 255 times 256, and some by 256, so that numbers of them have bytes in common.
func TestTornUponTorn(t *testing.T) {
	firsts := [][]int{{4}, {255}, {256}, {257}, {512}}
	seconds := [][]int{{4}, {255}, {256}, {512}, {65000, 532}, {65000, 531}, {65000, 788}}
	for _, first := range firsts {
		for _, second := range seconds {
			for p := 488; p < 512; p++ {
				w := begun(t, 400, 1)
				for _, s := range []string{long(8), long(12)} {
					w.do(call{kind: appends, records: []string{s}})
					w.do(call{kind: flushes})
				}
				tornTwice(w, first, second, p)
			}
		}
	}
}

// tornTwice lets a Flush be torn at p, and another one, on what is left of that, at every byte of its first ones and its last ones.
func tornTwice(w *world, first, second []int, p int) {
	for _, n := range first {
		w.do(call{kind: appends, records: []string{long(n)}})
	}
	w.dies()
	left := w.crash(99, []int{p})
	left.do(call{kind: opens})
	for _, n := range second {
		left.do(call{kind: appends, records: []string{"2" + long(n-1)}})
	}
	left.dies()
	left.what = "torn at " + strconv.Itoa(p)
	for q := range 24 {
		left.crashed(99, []int{q})
		left.crashed(99, []int{512 - q})
	}
}

// P10.1 to P10.3: long rows of calls, on disks that die, refuse and are full, and on what is left of them.
func TestLongRows(t *testing.T) {
	for seed := range 150 {
		r := rand.New(rand.NewSource(int64(seed)))
		room := []int{400, 400, 4, 8, 15, 40}[r.Intn(6)]
		w := newWorld(t, room)
		for n := range 400 {
			w.what = "row " + strconv.Itoa(seed) + ", call " + strconv.Itoa(n)
			chance(r, w)
			for range r.Intn(3) {
				w.crashed(r.Intn(5)-1, chancePicks(r))
			}
			if w.d.Dead() || r.Intn(20) == 0 {
				w = w.crash(r.Intn(5)-1, chancePicks(r))
			}
		}
	}
}

func chance(r *rand.Rand, w *world) {
	// What is denied is counted on from an earlier call, till it was met.
	switch r.Intn(12) {
	case 0, 1:
		w.d.Arm(1 + r.Intn(9))
	case 2:
		w.d.Deny(1 + r.Intn(7))
		w.denies = true
	}
	var l []string
	for range r.Intn(4) {
		l = append(l, strconv.Itoa(r.Intn(1000))+long([]int{0, 1, 10, 250, 507, 508, 600, 1500}[r.Intn(8)]))
	}
	switch r.Intn(9) {
	case 0, 1:
		w.do(call{kind: opens})
	case 2:
		w.do(call{kind: resets, records: l})
	case 3, 4, 5:
		w.do(call{kind: flushes})
	default:
		for _, s := range l {
			w.do(call{kind: appends, records: []string{s}})
		}
	}
	if w.l == nil && r.Intn(2) == 0 {
		w.do(call{kind: opens})
	}
}

func chancePicks(r *rand.Rand) []int {
	var l []int
	for range r.Intn(8) {
		l = append(l, []int{0, 0, 512, 512, r.Intn(20), 512 - r.Intn(20), r.Intn(512)}[r.Intn(7)])
	}
	return l
}
