package disk_test

import (
	"bytes"
	"math"
	"slices"
	"strings"
	"testing"

	"jalousie/api"
	"jalousie/disk"
)

// The signatures that the chapter lists: another one doesn't compile.
var (
	_ func([]int) (*disk.Disk, api.Errno)            = disk.New
	_ func(*disk.Disk, int) int                      = (*disk.Disk).Len
	_ func(*disk.Disk, int, int) ([]byte, api.Errno) = (*disk.Disk).Read
	_ func(*disk.Disk, int, int, []byte) api.Errno   = (*disk.Disk).Write
	_ func(*disk.Disk, int) api.Errno                = (*disk.Disk).Sync
	_ func(*disk.Disk, int) []int                    = (*disk.Disk).Loose
	_ func(*disk.Disk, int, int)                     = (*disk.Disk).Stop
	_ func(*disk.Disk, int) bool                     = (*disk.Disk).Down
	_ func(*disk.Disk, []string)                     = (*disk.Disk).Crash
)

// dice produces numbers below one, which look like chance and are the same for one seed.
func dice(seed uint64) func(below int) int {
	return func(below int) int {
		seed = seed*6364136223846793005 + 1442695040888963407
		return int(seed >> 33 % uint64(below))
	}
}

// filled is a page's bytes, other ones for each number.
func filled(n int) []byte {
	b := make([]byte, 128)
	for i := range b {
		b[i] = byte(n + i*(n%7+1))
	}
	b[0], b[127] = byte(n), byte(n>>8)
	return b
}

// zero is the bytes of a page that was never written.
var zero = make([]byte, 128)

// made is a new device.
func made(t *testing.T, sizes ...int) *disk.Disk {
	t.Helper()
	d, e := disk.New(sizes)
	if e != api.OK || d == nil {
		t.Fatalf("New(%v) = %v, %v", sizes, d, e)
	}
	return d
}

// reads holds what Read tells of a page.
func reads(t *testing.T, d *disk.Disk, region, page int, want []byte) {
	t.Helper()
	if b, e := d.Read(region, page); e != api.OK || !bytes.Equal(b, want) {
		t.Errorf("Read(%d, %d) = %x, %d, want %x", region, page, b, e, want)
	}
}

// failed holds that Read has an error, and nothing beside it.
func failed(t *testing.T, d *disk.Disk, region, page int, want api.Errno) {
	t.Helper()
	if b, e := d.Read(region, page); e != want || b != nil {
		t.Errorf("Read(%d, %d) = %x, %d, want error %d", region, page, b, e, want)
	}
}

// wrote holds what Write comes to.
func wrote(t *testing.T, d *disk.Disk, region, page int, b []byte, want api.Errno) {
	t.Helper()
	if e := d.Write(region, page, b); e != want {
		t.Errorf("Write(%d, %d, %d bytes) = %d, want %d", region, page, len(b), e, want)
	}
}

// synced holds what Sync comes to.
func synced(t *testing.T, d *disk.Disk, region int, want api.Errno) {
	t.Helper()
	if e := d.Sync(region); e != want {
		t.Errorf("Sync(%d) = %d, want %d", region, e, want)
	}
}

// loose holds what Loose tells.
func loose(t *testing.T, d *disk.Disk, region int, want ...int) {
	t.Helper()
	if got := d.Loose(region); !slices.Equal(got, want) {
		t.Errorf("Loose(%d) = %v, want %v", region, got, want)
	}
}

// down holds what Down tells.
func down(t *testing.T, d *disk.Disk, region int, want bool) {
	t.Helper()
	if got := d.Down(region); got != want {
		t.Errorf("Down(%d) = %v, want %v", region, got, want)
	}
}

// lens holds how many pages regions have, and that there is none behind them.
func lens(t *testing.T, d *disk.Disk, want ...int) {
	t.Helper()
	for i, n := range want {
		if got := d.Len(i); got != n {
			t.Errorf("Len(%d) = %d, want %d", i, got, n)
		}
	}
	for _, i := range outside(len(want)) {
		if got := d.Len(i); got != 0 {
			t.Errorf("Len(%d) = %d, want 0", i, got)
		}
	}
}

// outside is numbers that are none of the first n.
func outside(n int) []int {
	return []int{math.MinInt, math.MinInt32, -1 << 32, -256, -64, -1, n, n + 1, n + 64, n + 256, n + 1<<32, math.MaxInt32, math.MaxInt}
}

// The device, done as the chapter says it.

// pend is a pending write.
type pend struct {
	page  int
	bytes string
}

type plainRegion struct {
	durable []string
	pending []pend
	down    bool
	set     bool // to stop
	after   int  // as Stop was told
	counted int  // calls since then
}

type plain []*plainRegion

func plainNew(sizes []int) plain {
	var p plain
	for _, n := range sizes {
		p = append(p, &plainRegion{durable: slices.Repeat([]string{string(zero)}, n)})
	}
	return p
}

func (p plain) region(i int) *plainRegion {
	if i < 0 || i >= len(p) {
		return nil
	}
	return p[i]
}

// refused is the first of the errors, but for that of the call at which a region stops. Of Sync page is 0 and b is 128 bytes.
func (p plain) refused(region, page int, b []byte) api.Errno {
	r := p.region(region)
	switch {
	case r == nil:
		return api.ErrRange
	case r.down:
		return api.ErrDown
	case page < 0 || page >= len(r.durable):
		return api.ErrRange
	case len(b) != 128:
		return api.ErrArg
	}
	return api.OK
}

// now is all pages, as they were written last.
func (r *plainRegion) now() []string {
	out := slices.Clone(r.durable)
	for _, w := range r.pending {
		out[w.page] = w.bytes
	}
	return out
}

// stopping counts a call.
func (r *plainRegion) stopping() bool {
	if r.set && r.counted == r.after {
		r.down = true
		return true
	}
	r.counted++
	return false
}

func (p plain) read(region, page int) (string, api.Errno) {
	if e := p.refused(region, page, zero); e != api.OK {
		return "", e
	}
	return p[region].now()[page], api.OK
}

func (p plain) write(region, page int, b []byte) api.Errno {
	if e := p.refused(region, page, b); e != api.OK {
		return e
	}
	r := p[region]
	if r.stopping() {
		return api.ErrDown
	}
	r.pending = append(r.pending, pend{page, string(b)})
	return api.OK
}

func (p plain) sync(region int) api.Errno {
	if e := p.refused(region, 0, zero); e != api.OK {
		return e
	}
	r := p[region]
	if r.stopping() {
		return api.ErrDown
	}
	r.durable, r.pending = r.now(), nil
	return api.OK
}

func (p plain) loose(region int) []int {
	var out []int
	if r := p.region(region); r != nil {
		for _, w := range r.pending {
			out = append(out, w.page)
		}
	}
	return out
}

func (p plain) stop(region, after int) {
	if r := p.region(region); r != nil {
		r.set, r.after, r.counted = after >= 0, after, 0
	}
}

func (p plain) crash(keep []string) {
	for k, r := range p {
		for i, w := range r.pending {
			if k < len(keep) && i/8 < len(keep[k]) && keep[k][i/8]&worth(i%8) != 0 {
				r.durable[w.page] = w.bytes
			}
		}
		r.pending, r.down, r.set = nil, false, false
	}
}

// worth is a byte of which bit i alone is 1.
func worth(i int) byte { return []byte{1, 2, 4, 8, 16, 32, 64, 128}[i] }

// alike holds that a device is as the chapter says.
func alike(t *testing.T, d *disk.Disk, p plain) {
	t.Helper()
	for i, r := range p {
		if d.Len(i) != len(r.durable) || d.Down(i) != r.down || !slices.Equal(d.Loose(i), p.loose(i)) {
			t.Fatalf("region %d: Len %d, Down %v, Loose %v; want %d, %v, %v", i, d.Len(i), d.Down(i), d.Loose(i), len(r.durable), r.down, p.loose(i))
		}
		now := r.now()
		for k := range now {
			want, we := now[k], api.OK
			if r.down {
				want, we = "", api.ErrDown
			}
			if b, e := d.Read(i, k); string(b) != want || e != we {
				t.Fatalf("Read(%d, %d) = %x, %d, want %x, %d", i, k, b, e, want, we)
			}
		}
	}
}

// P6.1

func TestNewOfWrongSizes(t *testing.T) {
	wrong := [][]int{nil, {}, slices.Repeat([]int{4}, 65), slices.Repeat([]int{4}, 66), slices.Repeat([]int{4}, 128), slices.Repeat([]int{4}, 257), slices.Repeat([]int{0}, 65), make([]int, 64)}
	for _, n := range []int{0, 1001, -1, 1002, -4, -1000, 1024, 1 << 32, 1<<32 + 4, math.MinInt, math.MaxInt} {
		wrong = append(wrong, []int{n}, []int{n, 4}, []int{4, n}, []int{4, n, 4}, append(slices.Repeat([]int{1000}, 63), n), []int{n, n})
	}
	for _, sizes := range wrong {
		if d, e := disk.New(sizes); e != api.ErrArg || d != nil {
			t.Errorf("New(%v) = %v, %d, want ErrArg", sizes, d, e)
		}
	}
}

func TestNew(t *testing.T) {
	var each []int // of 64, all sizes differ
	for i := range 64 {
		each = append(each, 1+i*999/63)
	}
	for _, sizes := range [][]int{{1}, {1000}, {4}, {1, 1000}, {1000, 1}, {2, 3, 5, 7}, {999, 2}, slices.Repeat([]int{1}, 63), slices.Repeat([]int{1}, 64), slices.Repeat([]int{1000}, 64), each} {
		d := made(t, sizes...)
		lens(t, d, sizes...)
		for i, n := range sizes {
			down(t, d, i, false)
			loose(t, d, i)
			for page := range n {
				reads(t, d, i, page, zero)
			}
		}
	}
}

func TestNewIsDurableAndNotSetToStop(t *testing.T) {
	d := made(t, 1, 1000)
	d.Crash([]string{"\xff", "\xff"})
	lens(t, d, 1, 1000)
	for i, n := range []int{1, 1000} {
		down(t, d, i, false)
		loose(t, d, i)
		for page := range n {
			reads(t, d, i, page, zero)
		}
		for k := range 2000 {
			wrote(t, d, i, k%n, filled(k), api.OK)
			synced(t, d, i, api.OK)
		}
	}
}

func TestDevicesAreTheirOwn(t *testing.T) {
	a, b := made(t, 4, 4), made(t, 4, 4)
	wrote(t, a, 0, 1, filled(1), api.OK)
	synced(t, a, 0, api.OK)
	wrote(t, a, 0, 2, filled(2), api.OK)
	a.Stop(1, 0)
	synced(t, a, 1, api.ErrDown)
	for page := range 4 {
		reads(t, b, 0, page, zero)
		reads(t, b, 1, page, zero)
	}
	loose(t, b, 0)
	down(t, b, 1, false)
	b.Crash(nil)
	loose(t, a, 0, 2)
	down(t, a, 1, true)
}

func TestNilDisk(t *testing.T) {
	var d *disk.Disk
	for range 2 {
		for _, region := range append(outside(64), 0, 1, 63) {
			if n := d.Len(region); n != 0 {
				t.Errorf("Len(%d) = %d", region, n)
			}
			if l := d.Loose(region); l != nil {
				t.Errorf("Loose(%d) = %v", region, l)
			}
			down(t, d, region, false)
			synced(t, d, region, api.ErrArg)
			for _, page := range []int{-1, 0, 1, 1000, math.MaxInt} {
				failed(t, d, region, page, api.ErrArg)
				for _, size := range []int{0, 127, 128, 129} {
					wrote(t, d, region, page, make([]byte, size), api.ErrArg)
				}
			}
			d.Stop(region, -1)
			d.Stop(region, 0)
			d.Stop(region, 5)
		}
		d.Crash(nil)
		d.Crash([]string{"", "\xff"})
	}
}

// P6.2

func TestReadAndWrite(t *testing.T) {
	d := made(t, 4, 1)
	wrote(t, d, 0, 2, filled(1), api.OK)
	reads(t, d, 0, 2, filled(1)) // pending
	wrote(t, d, 0, 2, filled(2), api.OK)
	reads(t, d, 0, 2, filled(2))
	wrote(t, d, 0, 0, filled(3), api.OK)
	reads(t, d, 0, 2, filled(2))
	reads(t, d, 0, 0, filled(3))
	loose(t, d, 0, 2, 2, 0)
	synced(t, d, 0, api.OK)
	reads(t, d, 0, 2, filled(2)) // durable
	reads(t, d, 0, 0, filled(3))
	loose(t, d, 0)
	wrote(t, d, 0, 2, filled(4), api.OK)
	reads(t, d, 0, 2, filled(4)) // pending over durable
	wrote(t, d, 0, 2, zero, api.OK)
	reads(t, d, 0, 2, zero)
	synced(t, d, 0, api.OK)
	reads(t, d, 0, 2, zero)
	reads(t, d, 0, 1, zero)
	reads(t, d, 0, 3, zero)
	reads(t, d, 1, 0, zero)
}

func TestEachPageIsItsOwn(t *testing.T) {
	d := made(t, 1000)
	for _, more := range []int{0, 1000} {
		for page := range 1000 {
			wrote(t, d, 0, page*7%1000, filled(page*7%1000+more), api.OK)
		}
		for range 2 {
			for page := range 1000 {
				reads(t, d, 0, page, filled(page+more))
			}
			synced(t, d, 0, api.OK)
		}
	}
}

func TestManyPendingWrites(t *testing.T) {
	const many = 5000
	d := made(t, 1000, 1)
	var want []int
	for i := range many {
		wrote(t, d, 0, i%3, filled(i), api.OK)
		wrote(t, d, 1, 0, filled(i), api.OK)
		want = append(want, i%3)
	}
	loose(t, d, 0, want...)
	loose(t, d, 1, make([]int, many)...)
	for i := many - 3; i < many; i++ {
		reads(t, d, 0, i%3, filled(i))
	}
	synced(t, d, 0, api.OK)
	for i := many - 3; i < many; i++ {
		reads(t, d, 0, i%3, filled(i))
	}
	keep := strings.Repeat("\x00", many/8-1) + "\x40" // that of number 4998
	d.Crash([]string{"", keep})
	reads(t, d, 1, 0, filled(many-2))
}

func TestNoSuchRegion(t *testing.T) {
	for _, sizes := range [][]int{{4}, {4, 1000, 1}, slices.Repeat([]int{2}, 64)} {
		d := made(t, sizes...)
		for _, region := range outside(len(sizes)) {
			for _, page := range []int{-1, 0, 1, 4, 1000} {
				failed(t, d, region, page, api.ErrRange)
				for _, size := range []int{0, 127, 128, 129} {
					wrote(t, d, region, page, make([]byte, size), api.ErrRange)
				}
			}
			synced(t, d, region, api.ErrRange)
			loose(t, d, region)
			d.Stop(region, 0)
			down(t, d, region, false)
			synced(t, d, region, api.ErrRange)
		}
		for i := range sizes { // none of them was set to stop
			synced(t, d, i, api.OK)
			wrote(t, d, i, 0, filled(i), api.OK)
			down(t, d, i, false)
		}
	}
}

func TestNoSuchPage(t *testing.T) {
	sizes := []int{1, 4, 1000}
	d := made(t, sizes...)
	for i, n := range sizes {
		wrote(t, d, i, n-1, filled(i), api.OK)
		for _, page := range outside(n) {
			failed(t, d, i, page, api.ErrRange)
			for _, size := range []int{0, 127, 128, 129} { // ahead of the bytes being too few or too many
				wrote(t, d, i, page, make([]byte, size), api.ErrRange)
			}
		}
		loose(t, d, i, n-1)
		reads(t, d, i, n-1, filled(i))
		down(t, d, i, false)
	}
}

func TestPagesOfWrongSize(t *testing.T) {
	d := made(t, 4)
	wrote(t, d, 0, 1, filled(1), api.OK)
	for _, size := range []int{0, 1, 64, 122, 126, 127, 129, 130, 255, 256, 384, 1000, 1 << 16} {
		wrote(t, d, 0, 1, make([]byte, size), api.ErrArg)
		wrote(t, d, 0, 0, make([]byte, size, size+1000), api.ErrArg)
		reads(t, d, 0, 1, filled(1))
		loose(t, d, 0, 1)
	}
	wrote(t, d, 0, 1, nil, api.ErrArg)
	wrote(t, d, 0, 1, make([]byte, 127, 128), api.ErrArg)
	wrote(t, d, 0, 1, make([]byte, 128, 200), api.OK)
	loose(t, d, 0, 1, 1)
	down(t, d, 0, false)
}

// TestOrderOfErrors has calls with several faults.
func TestOrderOfErrors(t *testing.T) {
	d := made(t, 4, 4)
	d.Stop(0, 0)
	synced(t, d, 0, api.ErrDown)
	for _, page := range append(outside(4), 0, 3) {
		failed(t, d, 0, page, api.ErrDown) // ahead of there being no such page
		failed(t, d, 2, page, api.ErrRange)
		failed(t, d, -1, page, api.ErrRange)
		for _, size := range []int{0, 127, 128, 129} {
			wrote(t, d, 0, page, make([]byte, size), api.ErrDown)
			wrote(t, d, 2, page, make([]byte, size), api.ErrRange) // though another one is down
			wrote(t, d, -1, page, make([]byte, size), api.ErrRange)
		}
	}
	d.Stop(1, 0) // a fault is told ahead of the stop, and does not count
	wrote(t, d, 1, 4, nil, api.ErrRange)
	wrote(t, d, 1, 0, nil, api.ErrArg)
	down(t, d, 1, false)
	wrote(t, d, 1, 0, zero, api.ErrDown)
	wrote(t, d, 1, 4, nil, api.ErrDown)
	down(t, d, 1, true)
}

func TestSyncInOrder(t *testing.T) {
	d := made(t, 3)
	for i, page := range []int{2, 0, 2, 1, 2, 0} {
		wrote(t, d, 0, page, filled(i), api.OK)
	}
	loose(t, d, 0, 2, 0, 2, 1, 2, 0)
	synced(t, d, 0, api.OK)
	loose(t, d, 0)
	for range 2 {
		reads(t, d, 0, 0, filled(5))
		reads(t, d, 0, 1, filled(3))
		reads(t, d, 0, 2, filled(4))
		d.Crash(nil)
	}
	synced(t, d, 0, api.OK) // of nothing
	reads(t, d, 0, 2, filled(4))
}

// P6.3: stops

// call is a Write or a Sync that has no fault.
type call func(t *testing.T, d *disk.Disk, want api.Errno)

func calls() []call {
	return []call{
		func(t *testing.T, d *disk.Disk, want api.Errno) { t.Helper(); wrote(t, d, 0, 1, filled(9), want) },
		func(t *testing.T, d *disk.Disk, want api.Errno) { t.Helper(); synced(t, d, 0, want) },
	}
}

func TestStopAtACall(t *testing.T) {
	for after := range 40 {
		for k, last := range calls() {
			d := made(t, 4, 4)
			d.Stop(0, after)
			for i := range after {
				calls()[(i+i/3+k)%2](t, d, api.OK)
				down(t, d, 0, false)
			}
			last(t, d, api.ErrDown)
			down(t, d, 0, true)
			down(t, d, 1, false)
			for _, c := range calls() {
				c(t, d, api.ErrDown)
			}
			failed(t, d, 0, 1, api.ErrDown)
		}
	}
}

func TestStopOfAWrite(t *testing.T) {
	d := made(t, 4)
	wrote(t, d, 0, 1, filled(1), api.OK)
	d.Stop(0, 1)
	wrote(t, d, 0, 2, filled(2), api.OK)
	wrote(t, d, 0, 3, filled(3), api.ErrDown)
	loose(t, d, 0, 1, 2)
	if n := d.Len(0); n != 4 {
		t.Errorf("Len of a region that is down = %d", n)
	}
	d.Crash([]string{"\xff"})
	reads(t, d, 0, 1, filled(1))
	reads(t, d, 0, 2, filled(2))
	reads(t, d, 0, 3, zero) // no effect
	down(t, d, 0, false)
}

func TestStopOfASync(t *testing.T) {
	d := made(t, 4)
	wrote(t, d, 0, 1, filled(1), api.OK)
	wrote(t, d, 0, 2, filled(2), api.OK)
	d.Stop(0, 0)
	synced(t, d, 0, api.ErrDown)
	loose(t, d, 0, 1, 2) // still
	d.Crash([]string{"\x02"})
	reads(t, d, 0, 1, zero) // no effect
	reads(t, d, 0, 2, filled(2))
	loose(t, d, 0)
}

func TestWhatDoesNotCount(t *testing.T) {
	d := made(t, 4, 4)
	d.Stop(0, 1)
	for range 3 {
		d.Read(0, 0)
		d.Read(0, 4)
		d.Len(0)
		d.Loose(0)
		d.Down(0)
		wrote(t, d, 0, 4, zero, api.ErrRange)
		wrote(t, d, 0, -1, zero, api.ErrRange)
		wrote(t, d, 0, 0, zero[:127], api.ErrArg)
		wrote(t, d, 0, 0, append(slices.Clone(zero), 0), api.ErrArg)
		wrote(t, d, 2, 0, zero, api.ErrRange)
		synced(t, d, 2, api.ErrRange)
		synced(t, d, -1, api.ErrRange)
		wrote(t, d, 1, 0, zero, api.OK) // another region
		synced(t, d, 1, api.OK)
		d.Stop(1, 5)
		down(t, d, 0, false)
	}
	wrote(t, d, 0, 0, zero, api.OK)
	down(t, d, 0, false)
	wrote(t, d, 0, 0, zero, api.ErrDown)
}

func TestWhatCameAheadDoesNotCount(t *testing.T) {
	d := made(t, 4)
	for range 5 {
		wrote(t, d, 0, 0, zero, api.OK)
		synced(t, d, 0, api.OK)
	}
	d.Stop(0, 2)
	wrote(t, d, 0, 0, zero, api.OK)
	synced(t, d, 0, api.OK)
	synced(t, d, 0, api.ErrDown)
}

func TestStopIsReplaced(t *testing.T) {
	for _, first := range []int{0, 1, 5, math.MaxInt} {
		for _, second := range []int{0, 1, 2, 7} {
			d := made(t, 4)
			d.Stop(0, first)
			if first > 0 {
				synced(t, d, 0, api.OK)
			}
			d.Stop(0, second)
			for range second {
				synced(t, d, 0, api.OK)
			}
			down(t, d, 0, false)
			synced(t, d, 0, api.ErrDown)
		}
	}
}

func TestStopIsTakenBack(t *testing.T) {
	for _, below := range []int{-1, -2, -1000, math.MinInt32, math.MinInt} {
		for _, first := range []int{0, 1, 3} {
			d := made(t, 4)
			d.Stop(0, below) // nothing to be taken back
			synced(t, d, 0, api.OK)
			d.Stop(0, first)
			for range first {
				synced(t, d, 0, api.OK)
			}
			d.Stop(0, below)
			for i := range 300 {
				wrote(t, d, 0, i%4, filled(i), api.OK)
				synced(t, d, 0, api.OK)
			}
			down(t, d, 0, false)
			d.Stop(0, 0)
			synced(t, d, 0, api.ErrDown)
		}
	}
}

func TestStopFarOff(t *testing.T) {
	for _, after := range []int{2000, 1 << 16, math.MaxInt32, 1 << 32, math.MaxInt} {
		d := made(t, 4)
		d.Stop(0, after)
		for range 1000 {
			wrote(t, d, 0, 0, zero, api.OK)
			synced(t, d, 0, api.OK)
		}
		down(t, d, 0, false)
	}
}

func TestDownUntilACrash(t *testing.T) {
	d := made(t, 4)
	d.Stop(0, 0)
	synced(t, d, 0, api.ErrDown)
	for _, after := range []int{-1, 0, 5, math.MinInt} { // a stop that is taken back does not bring it up
		d.Stop(0, after)
		down(t, d, 0, true)
		wrote(t, d, 0, 0, zero, api.ErrDown)
		synced(t, d, 0, api.ErrDown)
		failed(t, d, 0, 0, api.ErrDown)
	}
	d.Crash(nil)
	down(t, d, 0, false)
	reads(t, d, 0, 0, zero)
	for range 20 {
		wrote(t, d, 0, 0, filled(1), api.OK)
		synced(t, d, 0, api.OK)
	}
}

func TestCrashTakesStopsBack(t *testing.T) {
	for _, after := range []int{0, 1, 5} {
		d := made(t, 4, 4, 4)
		d.Stop(0, after)
		d.Stop(1, 0)
		synced(t, d, 1, api.ErrDown)
		d.Stop(1, after)
		d.Crash(nil)
		for i := range 3 {
			down(t, d, i, false)
			for range 20 {
				wrote(t, d, i, 0, zero, api.OK)
				synced(t, d, i, api.OK)
			}
		}
	}
}

func TestStopsOfSeveralRegions(t *testing.T) {
	d := made(t, slices.Repeat([]int{2}, 64)...)
	for i := range 64 {
		d.Stop(i, i)
	}
	for round := range 64 {
		for i := range 64 {
			want := api.OK
			if i <= round {
				want = api.ErrDown
			}
			synced(t, d, i, want)
			down(t, d, i, i <= round)
		}
	}
}

// P6.3: crashes

func TestExample(t *testing.T) {
	for _, keep := range [][]string{nil, {}, {""}, {"", "", ""}} {
		d := made(t, 4)
		wrote(t, d, 0, 1, filled(1), api.OK)
		d.Crash(keep)
		reads(t, d, 0, 1, zero)
		wrote(t, d, 0, 1, filled(2), api.OK)
		synced(t, d, 0, api.OK)
		wrote(t, d, 0, 1, filled(3), api.OK)
		d.Crash(keep)
		reads(t, d, 0, 1, filled(2))
		loose(t, d, 0)
	}
}

// TestCrashOfEachBit keeps one of 20 writes at a time.
func TestCrashOfEachBit(t *testing.T) {
	for bit := range 32 {
		d := made(t, 20)
		for i := range 20 {
			wrote(t, d, 0, i, filled(i+1), api.OK)
		}
		keep := []byte{0, 0, 0, 0}
		keep[bit/8] = worth(bit % 8)
		d.Crash([]string{string(keep)})
		for i := range 20 {
			want := zero
			if i == bit {
				want = filled(i + 1)
			}
			reads(t, d, 0, i, want)
		}
		loose(t, d, 0)
	}
}

func TestCrashKnown(t *testing.T) {
	for _, x := range []struct {
		keep []string
		want string // for the pages of region 0 whether they stay, then those of region 1
	}{
		{nil, "----------" + "---"},
		{[]string{"\xff"}, "xxxxxxxx--" + "---"}, // bytes that don't exist
		{[]string{"\xff\xff"}, "xxxxxxxxxx" + "---"},
		{[]string{"\xff\x03"}, "xxxxxxxxxx" + "---"},
		{[]string{"\xff\xfc"}, "xxxxxxxx--" + "---"}, // more bits than writes
		{[]string{"\x05\x02"}, "x-x------x" + "---"},
		{[]string{"", "\x06"}, "----------" + "-xx"},
		{[]string{"\x80", "\x01"}, "-------x--" + "x--"},
		{[]string{"\x00\x00\xff\xff", "\xf8"}, "----------" + "---"},
		{[]string{"\x01", "\x02", "\xff", "\xff"}, "x---------" + "-x-"}, // more elements than regions
		{[]string{strings.Repeat("\xff", 1000), strings.Repeat("\xff", 1000)}, "xxxxxxxxxx" + "xxx"},
		{[]string{"x", "1"}, "---xxxx---" + "x--"}, // 0x78 and 0x31: bytes, not digits
	} {
		d := made(t, 12, 4)
		for i := range 10 {
			wrote(t, d, 0, i, filled(i+1), api.OK)
		}
		for i := range 3 {
			wrote(t, d, 1, i, filled(i+11), api.OK)
		}
		d.Crash(x.keep)
		for i, c := range x.want {
			want := zero
			if c == 'x' {
				want = filled(i + 1)
			}
			reads(t, d, i/10, i%10, want)
		}
		loose(t, d, 0)
		loose(t, d, 1)
	}
}

// TestCrashOfTwoWritesOfOnePage has pages that are written over while they are pending.
func TestCrashOfTwoWritesOfOnePage(t *testing.T) {
	for _, x := range []struct {
		keep string
		want int // the write of page 1 that stays
	}{
		{"", 1}, {"\x00", 1}, {"\x01", 2}, {"\x02", 1}, {"\x04", 3}, {"\x05", 3}, {"\x08", 4}, {"\x09", 4}, {"\x0c", 4}, {"\x0d", 4}, {"\x0f", 4}, {"\xf0", 1},
	} {
		d := made(t, 3)
		wrote(t, d, 0, 1, filled(1), api.OK)
		synced(t, d, 0, api.OK)
		wrote(t, d, 0, 1, filled(2), api.OK)
		wrote(t, d, 0, 2, filled(9), api.OK)
		wrote(t, d, 0, 1, filled(3), api.OK)
		wrote(t, d, 0, 1, filled(4), api.OK)
		d.Crash([]string{x.keep})
		reads(t, d, 0, 1, filled(x.want))
		second := zero
		if x.keep == "\x02" || x.keep == "\x0f" {
			second = filled(9)
		}
		reads(t, d, 0, 2, second)
		d.Crash([]string{"\xff"}) // what was not kept does not come back
		reads(t, d, 0, 1, filled(x.want))
		reads(t, d, 0, 2, second)
	}
}

func TestWhatACrashKeepsIsDurable(t *testing.T) {
	d := made(t, 4)
	wrote(t, d, 0, 1, filled(1), api.OK)
	wrote(t, d, 0, 2, filled(2), api.OK)
	d.Crash([]string{"\x01"})
	wrote(t, d, 0, 1, filled(3), api.OK) // number 0 again
	loose(t, d, 0, 1)
	d.Crash([]string{"\x02"})
	reads(t, d, 0, 1, filled(1))
	reads(t, d, 0, 2, zero)
}

func TestCrashCountsFromTheLastSync(t *testing.T) {
	d := made(t, 4)
	wrote(t, d, 0, 0, filled(1), api.OK)
	wrote(t, d, 0, 1, filled(2), api.OK)
	synced(t, d, 0, api.OK)
	wrote(t, d, 0, 2, filled(3), api.OK)
	wrote(t, d, 0, 3, filled(4), api.OK)
	d.Crash([]string{"\x01"})
	for page, n := range []int{1, 2, 3} {
		reads(t, d, 0, page, filled(n))
	}
	reads(t, d, 0, 3, zero)
}

// P6.4

func TestRegionsDoNotInfluenceOthers(t *testing.T) {
	d := made(t, 4, 4, 4)
	for i := range 3 {
		wrote(t, d, i, 1, filled(i+1), api.OK)
		synced(t, d, i, api.OK)
		wrote(t, d, i, 2, filled(i+4), api.OK)
	}
	synced(t, d, 1, api.OK)
	wrote(t, d, 1, 1, filled(7), api.OK)
	d.Stop(1, 0)
	synced(t, d, 1, api.ErrDown)
	for _, i := range []int{0, 2} {
		down(t, d, i, false)
		loose(t, d, i, 2)
		reads(t, d, i, 1, filled(i+1))
		reads(t, d, i, 2, filled(i+4))
		wrote(t, d, i, 3, filled(i+8), api.OK)
		loose(t, d, i, 2, 3)
	}
	loose(t, d, 1, 1)
	d.Crash([]string{"\x01", "", "\x02"})
	for i, want := range [][][]byte{{zero, filled(1), filled(4), zero}, {zero, filled(2), filled(5), zero}, {zero, filled(3), zero, filled(10)}} {
		for page, b := range want {
			reads(t, d, i, page, b)
		}
	}
}

// TestOneRegionAmongOthers has the same operations in a region, whatever befalls those beside it.
func TestOneRegionAmongOthers(t *testing.T) {
	for seed := range uint64(30) {
		alone, among := made(t, 5), made(t, 7, 5, 3)
		roll, other := dice(seed), dice(seed+1000)
		for range 400 {
			for range other(3) {
				randomly(other, among, 2*other(2))
			}
			page, n := roll(6), roll(1000)
			switch roll(12) {
			case 0:
				if a, b := alone.Sync(0), among.Sync(1); a != b {
					t.Fatalf("Sync = %d alone, %d among others", a, b)
				}
			case 1:
				alone.Stop(0, n%8-1)
				among.Stop(1, n%8-1)
			case 2:
				keep := string(filled(n)[:3])
				alone.Crash([]string{keep})
				among.Crash([]string{string(filled(other(1000))), keep, string(filled(other(1000)))})
			default:
				if a, b := alone.Write(0, page, filled(n)), among.Write(1, page, filled(n)); a != b {
					t.Fatalf("Write = %d alone, %d among others", a, b)
				}
			}
			if !slices.Equal(alone.Loose(0), among.Loose(1)) || alone.Down(0) != among.Down(1) || alone.Len(0) != among.Len(1) {
				t.Fatal("Loose, Down or Len is not what it is alone")
			}
			for page := range 5 {
				a, ae := alone.Read(0, page)
				b, be := among.Read(1, page)
				if !bytes.Equal(a, b) || ae != be {
					t.Fatalf("Read = %x, %d alone, %x, %d among others", a, ae, b, be)
				}
			}
		}
	}
}

// randomly does something in a region.
func randomly(roll func(int) int, d *disk.Disk, region int) {
	switch roll(8) {
	case 0:
		d.Sync(region)
	case 1:
		d.Stop(region, roll(6)-1)
	default:
		d.Write(region, roll(8), filled(roll(1000)))
	}
}

func TestSyncedContentSurvives(t *testing.T) {
	all := strings.Repeat("\xff", 10)
	for written := range 3 { // pending writes over it
		for _, keep := range []string{"", all} {
			d := made(t, 4)
			wrote(t, d, 0, 1, filled(1), api.OK)
			wrote(t, d, 0, 2, filled(2), api.OK)
			synced(t, d, 0, api.OK)
			for i := range written {
				wrote(t, d, 0, 2, filled(i+3), api.OK)
			}
			want := filled(2)
			if keep == all && written > 0 {
				want = filled(written + 2)
			}
			for range 3 {
				d.Crash([]string{keep})
				reads(t, d, 0, 1, filled(1))
				reads(t, d, 0, 2, want)
			}
		}
	}
}

// All promises, by operations in any order.

func TestAnyOperations(t *testing.T) {
	for seed := range uint64(60) {
		roll := dice(seed)
		var sizes []int
		for range 1 + roll(4) {
			sizes = append(sizes, 1+roll(6))
		}
		d, p := made(t, sizes...), plainNew(sizes)
		for range 600 {
			step(t, roll, d, p)
			// Of every second device much goes by unasked.
			if seed%2 == 0 || roll(20) == 0 {
				alike(t, d, p)
			}
		}
		alike(t, d, p)
	}
}

// step does one operation with the device, and what the chapter says of it.
func step(t *testing.T, roll func(int) int, d *disk.Disk, p plain) {
	t.Helper()
	region, page := roll(len(p)+2)-1, roll(8)-1
	switch roll(20) {
	case 0:
		keep := make([]string, roll(len(p)+2))
		for i := range keep {
			keep[i] = string(filled(roll(60000))[:roll(5)])
		}
		d.Crash(keep)
		p.crash(keep)
	case 1:
		after := roll(12) - 2
		d.Stop(region, after)
		p.stop(region, after)
	case 2, 3:
		if got, want := d.Sync(region), p.sync(region); got != want {
			t.Fatalf("Sync(%d) = %d, want %d", region, got, want)
		}
	case 4:
		b, e := d.Read(region, page)
		if want, we := p.read(region, page); string(b) != want || e != we {
			t.Fatalf("Read(%d, %d) = %x, %d, want %x, %d", region, page, b, e, want, we)
		}
	case 5:
		b := make([]byte, 126+roll(5))
		if got, want := d.Write(region, page, b), p.write(region, page, b); got != want {
			t.Fatalf("Write(%d, %d, %d bytes) = %d, want %d", region, page, len(b), got, want)
		}
	default:
		b := filled(roll(60000))
		if got, want := d.Write(region, page, b), p.write(region, page, b); got != want {
			t.Fatalf("Write(%d, %d) = %d, want %d", region, page, got, want)
		}
	}
}

// Rule 3: arguments are neither modified nor retained, and results are in new memory.

func TestWhatReadReturnsIsItsOwn(t *testing.T) {
	d := made(t, 4)
	wrote(t, d, 0, 1, filled(1), api.OK)
	synced(t, d, 0, api.OK)
	wrote(t, d, 0, 2, filled(2), api.OK)
	for page, want := range [][]byte{zero, filled(1), filled(2)} { // never written, durable, pending
		first, _ := d.Read(0, page)
		second, _ := d.Read(0, page)
		for i := range first {
			first[i] ^= 0xff
		}
		clear(append(first, "behind"...))
		if !bytes.Equal(second, want) {
			t.Errorf("one result of Read(0, %d) became %x when another one was changed", page, second)
		}
		reads(t, d, 0, page, want)
	}
	d.Crash([]string{"\xff"})
	reads(t, d, 0, 2, filled(2))
	reads(t, d, 0, 3, zero)
}

func TestWhatReadReturnedDoesNotChange(t *testing.T) {
	d := made(t, 4)
	wrote(t, d, 0, 1, filled(1), api.OK)
	b, _ := d.Read(0, 1)
	wrote(t, d, 0, 1, filled(2), api.OK)
	c, _ := d.Read(0, 1)
	synced(t, d, 0, api.OK)
	wrote(t, d, 0, 1, filled(3), api.OK)
	d.Crash([]string{"\xff"})
	if !bytes.Equal(b, filled(1)) || !bytes.Equal(c, filled(2)) {
		t.Errorf("results of Read became %x and %x when the page was written", b, c)
	}
}

func TestWhatWriteWasGivenIsTheCallers(t *testing.T) {
	d := made(t, 4)
	whole := append(append([]byte("ahead"), filled(1)...), "behind"...)
	want := slices.Clone(whole)
	b := whole[5:133]
	wrote(t, d, 0, 1, b, api.OK)
	wrote(t, d, 0, 2, b, api.OK)
	wrote(t, d, 0, 3, whole[5:132], api.ErrArg)
	synced(t, d, 0, api.OK)
	wrote(t, d, 0, 3, b, api.OK)
	d.Stop(0, 0)
	wrote(t, d, 0, 0, b, api.ErrDown)
	if !bytes.Equal(whole, want) {
		t.Errorf("the argument of Write became %x", whole)
	}
	d.Crash([]string{"\x01"})
	wrote(t, d, 0, 0, b, api.OK)
	clear(whole)
	for page := range 4 {
		reads(t, d, 0, page, filled(1))
	}
	synced(t, d, 0, api.OK)
	copy(b, filled(7))
	reads(t, d, 0, 0, filled(1))
}

func TestSizesAndBitsAreTheCallers(t *testing.T) {
	whole := []int{3, 4, 5, 6, 7}
	sizes := whole[:3]
	d := made(t, sizes...)
	wrote(t, d, 0, 1, filled(1), api.OK)
	keeps := []string{"\x01", "\x01", "\x01", "behind"}
	d.Crash(keeps[:1])
	if !slices.Equal(whole, []int{3, 4, 5, 6, 7}) || !slices.Equal(keeps, []string{"\x01", "\x01", "\x01", "behind"}) {
		t.Errorf("the arguments became %v and %q", whole, keeps)
	}
	clear(whole)
	clear(keeps)
	lens(t, d, 3, 4, 5)
	reads(t, d, 0, 1, filled(1))
	wrote(t, d, 2, 4, filled(2), api.OK)
}

func TestLooseIsItsOwn(t *testing.T) {
	d := made(t, 4)
	for _, page := range []int{3, 1, 2} {
		wrote(t, d, 0, page, filled(page), api.OK)
	}
	l := d.Loose(0)
	m := d.Loose(0)
	wrote(t, d, 0, 0, filled(9), api.OK)
	if !slices.Equal(l, []int{3, 1, 2}) {
		t.Errorf("Loose became %v at a Write", l)
	}
	clear(l)
	clear(append(l, 7))
	if !slices.Equal(m, []int{3, 1, 2}) {
		t.Errorf("one result of Loose became %v when another one was changed", m)
	}
	loose(t, d, 0, 3, 1, 2, 0)
	d.Crash([]string{"\x0f"})
	for page, n := range []int{9, 1, 2, 3} {
		reads(t, d, 0, page, filled(n))
	}
	if !slices.Equal(m, []int{3, 1, 2}) {
		t.Errorf("Loose became %v at a Crash", m)
	}
}
