package disk_test

import (
	"bytes"
	"fmt"
	"math"
	"slices"
	"strings"
	"testing"
	"unsafe"

	"halyard/api"
	"halyard/disk"
)

// look is what the calls that read tell of a disk, but for Calls.
func look(d *disk.Disk) string {
	var out strings.Builder
	fmt.Fprint(&out, "down ", d.Down(), " used ", d.Used())
	for _, name := range d.List() {
		b, errno := d.Read(name)
		size, sizeErrno := d.Size(name)
		fmt.Fprintf(&out, " %q:%q", name, b)
		if errno != api.OK || sizeErrno != api.OK || size != len(b) {
			fmt.Fprint(&out, " !", errno, sizeErrno, size)
		}
	}
	return out.String()
}

// crashes is what copies of a disk tell behind crashes of all kinds.
func crashes(d *disk.Disk) string {
	var out []string
	for p := range 8 {
		for q := range 5 {
			c := d.Copy()
			c.Crash([]int{p, q, q, q, q, q})
			out = append(out, fmt.Sprint(p, " ", q, ": ", look(c)))
		}
	}
	return strings.Join(out, "\n")
}

// whole is all that a disk could tell, now and behind a crash.
func whole(d *disk.Disk) string { return look(d) + "\n" + crashes(d) }

func wantErrno(t *testing.T, what string, got, want api.Errno) {
	t.Helper()
	if got != want {
		t.Errorf("%s = %d, not %d", what, got, want)
	}
}

// wantAll asks what calls answered, one behind the other.
func wantAll(t *testing.T, want []api.Errno, got ...api.Errno) {
	t.Helper()
	if !slices.Equal(got, want) {
		t.Errorf("answers %d, not %d", got, want)
	}
}

func wantFile(t *testing.T, d *disk.Disk, name, want string) {
	t.Helper()
	if b, errno := d.Read(name); errno != api.OK || string(b) != want {
		t.Errorf("Read(%q) = %.60q, %d, not %.60q", name, b, errno, want)
	}
}

func wantNoFile(t *testing.T, d *disk.Disk, name string) {
	t.Helper()
	if b, errno := d.Read(name); errno != api.ErrNone || len(b) != 0 {
		t.Errorf("Read(%q) = %.60q, %d, not ErrNone", name, b, errno)
	}
}

func wantNames(t *testing.T, d *disk.Disk, want ...string) {
	t.Helper()
	if got := d.List(); !slices.Equal(got, want) {
		t.Errorf("List() = %q, not %q", got, want)
	}
}

// must stops a test whose ground is not as it should be.
func must(t *testing.T, l ...api.Errno) {
	t.Helper()
	for i, errno := range l {
		if errno != api.OK {
			t.Fatalf("call %d of the ground answers %d", i, errno)
		}
	}
}

// ground is a disk with something of everything: a and b are sure, with bytes that are not; a name and a removal are not sure.
func ground(t *testing.T) *disk.Disk {
	t.Helper()
	d := disk.New(40)
	must(t, d.Create("a"), d.Append("a", []byte("xyz")), d.Sync("a"), d.Append("a", []byte("w")),
		d.Create("b"), d.Append("b", []byte("12")), d.Create("gone"), d.Append("gone", []byte("g")), d.Sync("gone"),
		d.SyncDir(), d.Append("b", []byte("3")), d.Create("new"), d.Append("new", []byte("n")), d.Remove("gone"))
	return d
}

type step struct {
	what string
	do   func(d *disk.Disk) api.Errno
}

// done are the six calls that change, each as one that is done on the ground.
func done() []step {
	return []step{
		{"Create", func(d *disk.Disk) api.Errno { return d.Create("c") }},
		{"Append", func(d *disk.Disk) api.Errno { return d.Append("a", []byte("more")) }},
		{"Rename", func(d *disk.Disk) api.Errno { return d.Rename("a", "c") }},
		{"Rename onto", func(d *disk.Disk) api.Errno { return d.Rename("a", "b") }},
		{"Remove", func(d *disk.Disk) api.Errno { return d.Remove("a") }},
		{"Sync", func(d *disk.Disk) api.Errno { return d.Sync("a") }},
		{"SyncDir", func(d *disk.Disk) api.Errno { return d.SyncDir() }},
	}
}

func makesSure(s step) bool { return strings.HasPrefix(s.what, "Sync") }

type refusal struct {
	step
	want api.Errno
}

// refused are calls that the ground refuses, of all kinds.
func refused() []refusal {
	long := strings.Repeat("n", api.MaxName+1)
	return []refusal{
		{step{"Create of no bytes", func(d *disk.Disk) api.Errno { return d.Create("") }}, api.ErrName},
		{step{"Create of a long name", func(d *disk.Disk) api.Errno { return d.Create(long) }}, api.ErrName},
		{step{"Create with a /", func(d *disk.Disk) api.Errno { return d.Create("x/y") }}, api.ErrName},
		{step{"Create with a 0", func(d *disk.Disk) api.Errno { return d.Create("x\x00") }}, api.ErrName},
		{step{"Create of what is there", func(d *disk.Disk) api.Errno { return d.Create("a") }}, api.ErrExists},
		{step{"Append to nothing", func(d *disk.Disk) api.Errno { return d.Append("gone", []byte("x")) }}, api.ErrNone},
		{step{"Append to no name", func(d *disk.Disk) api.Errno { return d.Append("", nil) }}, api.ErrNone},
		{step{"Append beyond the room", func(d *disk.Disk) api.Errno { return d.Append("a", make([]byte, 33)) }}, api.ErrRoom},
		{step{"Append beyond a file", func(d *disk.Disk) api.Errno { return d.Append("a", make([]byte, api.MaxFile)) }}, api.ErrRoom},
		{step{"Sync of nothing", func(d *disk.Disk) api.Errno { return d.Sync("gone") }}, api.ErrNone},
		{step{"Rename of nothing", func(d *disk.Disk) api.Errno { return d.Rename("gone", "c") }}, api.ErrNone},
		{step{"Rename of nothing onto itself", func(d *disk.Disk) api.Errno { return d.Rename("gone", "gone") }}, api.ErrNone},
		{step{"Rename of nothing to no name", func(d *disk.Disk) api.Errno { return d.Rename("gone", "") }}, api.ErrNone},
		{step{"Rename of no name to itself", func(d *disk.Disk) api.Errno { return d.Rename("x/y", "x/y") }}, api.ErrNone},
		{step{"Rename to no bytes", func(d *disk.Disk) api.Errno { return d.Rename("a", "") }}, api.ErrName},
		{step{"Rename to a long name", func(d *disk.Disk) api.Errno { return d.Rename("a", long) }}, api.ErrName},
		{step{"Rename to one with a /", func(d *disk.Disk) api.Errno { return d.Rename("a", "/") }}, api.ErrName},
		{step{"Rename to one with a 0", func(d *disk.Disk) api.Errno { return d.Rename("a", "\x00a") }}, api.ErrName},
		{step{"Remove of nothing", func(d *disk.Disk) api.Errno { return d.Remove("gone") }}, api.ErrNone},
		{step{"Remove of no name", func(d *disk.Disk) api.Errno { return d.Remove("") }}, api.ErrNone},
	}
}

// P5.1

func TestNewIsEmpty(t *testing.T) {
	for _, room := range []int64{math.MinInt64, -1, 0, 1, 100, math.MaxInt64} {
		d := disk.New(room)
		if got := look(d); got != "down false used 0" || d.Calls() != 0 {
			t.Errorf("New(%d) tells %s and %d calls", room, got, d.Calls())
		}
	}
}

func TestNewWithoutRoom(t *testing.T) {
	for _, room := range []int64{math.MinInt64, -5, -1, 0} {
		d := disk.New(room)
		wantAll(t, []api.Errno{api.OK, api.OK, api.OK, api.ErrRoom}, d.Create("a"), d.Append("a", nil), d.Append("a", []byte{}), d.Append("a", []byte("x")))
		wantFile(t, d, "a", "")
	}
}

func TestNewWithTheGreatestRoom(t *testing.T) {
	d := disk.New(math.MaxInt64)
	wantAll(t, []api.Errno{api.OK, api.OK, api.OK}, d.Create("a"), d.Append("a", []byte("x")), d.Append("a", []byte("y")))
	wantFile(t, d, "a", "xy")
}

func TestDisksKeepToThemselves(t *testing.T) {
	d, e := disk.New(10), disk.New(10)
	must(t, d.Create("a"), d.Append("a", []byte("x")))
	d.Fuse(1)
	if look(e) != "down false used 0" || e.Calls() != 0 || e.Create("a") != api.OK || e.Down() {
		t.Error(look(e))
	}
}

func TestCreateByNames(t *testing.T) {
	d := disk.New(10)
	for _, name := range []string{"a", ".", "..", " ", "\x01", "\xff\xfe", "a.b", "\\", "ä", "A", strings.Repeat("n", api.MaxName), strings.Repeat("\xff", api.MaxName)} {
		wantErrno(t, fmt.Sprintf("Create(%q)", name), d.Create(name), api.OK)
		wantFile(t, d, name, "")
		wantErrno(t, fmt.Sprintf("Create(%q) again", name), d.Create(name), api.ErrExists)
	}
	before := whole(d)
	for _, name := range []string{"", "/", "a/", "/a", "a/b", "\x00", "a\x00", "\x00a", "a\x00b", strings.Repeat("n", api.MaxName) + "/", strings.Repeat("n", api.MaxName+1), strings.Repeat("n", api.MaxName-1) + "/", strings.Repeat("n", api.MaxName-1) + "\x00", strings.Repeat("n", 100000), "\xff/\xff", "äöüäöü/"} {
		wantErrno(t, fmt.Sprintf("Create(%.70q)", name), d.Create(name), api.ErrName)
	}
	if whole(d) != before {
		t.Error(look(d))
	}
}

func TestFilesAppendedToInTurn(t *testing.T) {
	d := disk.New(1000)
	must(t, d.Create("a"), d.Create("b"), d.Create("c"))
	want := map[string]string{}
	for i := range 20 {
		for _, name := range []string{"a", "b", "c"} {
			s := strings.Repeat(name, i%4) + fmt.Sprint(i)
			must(t, d.Append(name, []byte(s)))
			want[name] += s
		}
	}
	for name, s := range want {
		wantFile(t, d, name, s)
	}
	if d.Used() != int64(len(want["a"])*3) {
		t.Error(d.Used())
	}
}

func TestRemovedAndMadeAgain(t *testing.T) {
	d := disk.New(4)
	for range 5 {
		wantAll(t, make([]api.Errno, 3), d.Create("a"), d.Append("a", []byte("xyzw")), d.Remove("a"))
		wantNoFile(t, d, "a")
		wantErrno(t, "Remove again", d.Remove("a"), api.ErrNone)
	}
	must(t, d.Create("a"))
	wantFile(t, d, "a", "")
	wantNames(t, d, "a")
}

func TestRenamedOntoOneAnother(t *testing.T) {
	d := disk.New(10)
	must(t, d.Create("a"), d.Append("a", []byte("one")), d.Create("b"), d.Append("b", []byte("two")), d.Create("c"), d.Append("c", []byte("4444")))
	wantAll(t, make([]api.Errno, 2), d.Rename("a", "b"), d.Rename("b", "c"))
	wantNames(t, d, "c")
	wantFile(t, d, "c", "one")
	// A file under a new name is the same file.
	wantAll(t, []api.Errno{api.OK, api.ErrNone, api.ErrNone, api.OK}, d.Append("c", []byte("!")), d.Append("a", nil), d.Sync("b"), d.Create("a"))
	wantFile(t, d, "c", "one!")
	wantFile(t, d, "a", "")
	if d.Used() != 4 {
		t.Error(d.Used())
	}
}

func TestRenameOntoItself(t *testing.T) {
	d := ground(t)
	before := whole(d)
	calls := d.Calls()
	wantAll(t, make([]api.Errno, 2), d.Rename("a", "a"), d.Rename("new", "new"))
	if whole(d) != before || d.Calls() != calls+2 {
		t.Error("a change came about")
	}
}

func TestRenameToTheLongestName(t *testing.T) {
	d := ground(t)
	long := strings.Repeat("\xfe", api.MaxName)
	wantErrno(t, "Rename", d.Rename("a", long), api.OK)
	wantFile(t, d, long, "xyzw")
	wantErrno(t, "Rename back", d.Rename(long, "a"), api.OK)
	wantNames(t, d, "a", "b", "new")
}

func TestAFileOfMostBytes(t *testing.T) {
	d := disk.New(3 * api.MaxFile)
	must(t, d.Create("a"), d.Create("b"))
	wantErrno(t, "one more at once", d.Append("a", make([]byte, api.MaxFile+1)), api.ErrRoom)
	wantErrno(t, "all but one", d.Append("a", make([]byte, api.MaxFile-1)), api.OK)
	wantErrno(t, "two more", d.Append("a", []byte("xy")), api.ErrRoom)
	wantErrno(t, "one more", d.Append("a", []byte("x")), api.OK)
	wantErrno(t, "nothing more", d.Append("a", nil), api.OK)
	wantErrno(t, "beyond", d.Append("a", []byte("x")), api.ErrRoom)
	wantErrno(t, "another one", d.Append("b", make([]byte, api.MaxFile)), api.OK)
	if size, errno := d.Size("a"); size != api.MaxFile || errno != api.OK || d.Used() != 2*api.MaxFile {
		t.Error(size, errno, d.Used())
	}
}

func TestADiskFilledToItsRoom(t *testing.T) {
	d := disk.New(10)
	must(t, d.Create("a"), d.Create("b"), d.Append("a", []byte("123456")))
	wantErrno(t, "one byte more", d.Append("b", []byte("12345")), api.ErrRoom)
	wantErrno(t, "to its room", d.Append("b", []byte("1234")), api.OK)
	wantErrno(t, "one byte more", d.Append("a", []byte("x")), api.ErrRoom)
	wantErrno(t, "nothing", d.Append("a", nil), api.OK)
	wantErrno(t, "an empty file", d.Create("c"), api.OK)
	wantErrno(t, "Rename", d.Rename("c", "b"), api.OK)
	wantErrno(t, "what a Rename let go", d.Append("b", []byte("abcd")), api.OK)
	wantErrno(t, "Remove", d.Remove("a"), api.OK)
	wantErrno(t, "what a Remove let go", d.Append("b", []byte("efghij")), api.OK)
	wantErrno(t, "one byte more", d.Append("b", []byte("k")), api.ErrRoom)
	wantFile(t, d, "b", "abcdefghij")
}

// A crash may bring back more than there is room for: then not even nothing fits.
func TestADiskFilledBeyondItsRoom(t *testing.T) {
	d := disk.New(10)
	must(t, d.Create("a"), d.Append("a", []byte("0123456789")), d.Create("b"), d.Remove("a"), d.Append("b", []byte("abc")))
	d.Crash([]int{2, 10, 3})
	wantFile(t, d, "a", "0123456789")
	wantFile(t, d, "b", "abc")
	wantAll(t, []api.Errno{api.ErrRoom, api.ErrRoom, api.OK, api.OK, api.ErrRoom}, d.Append("b", nil), d.Append("b", []byte("x")), d.Remove("a"), d.Append("b", []byte("0123456")), d.Append("b", []byte("7")))
}

func TestErrorsInTheirOrder(t *testing.T) {
	for _, c := range refused() {
		wantErrno(t, c.what, c.do(ground(t)), c.want)
	}
	// Both bounds at once, and a file that lacks ahead of both.
	wantErrno(t, "Append to nothing, beyond all bounds", ground(t).Append("gone", make([]byte, api.MaxFile+1)), api.ErrNone)
}

// P5.2

func TestReadAt(t *testing.T) {
	d := disk.New(10)
	must(t, d.Create("a"), d.Append("a", []byte("hello")), d.Create("none"))
	const greatest, least = math.MaxInt, math.MinInt
	for _, c := range []struct {
		name  string
		at, n int
		want  string
		errno api.Errno
	}{
		{"a", 0, 5, "hello", api.OK}, {"a", 0, 0, "", api.OK}, {"a", 0, 4, "hell", api.OK}, {"a", 1, 3, "ell", api.OK}, {"a", 4, 1, "o", api.OK}, {"a", 5, 0, "", api.OK},
		{"a", 0, 6, "", api.ErrShort}, {"a", 5, 1, "", api.ErrShort}, {"a", 6, 0, "", api.ErrShort}, {"a", 4, 2, "", api.ErrShort}, {"a", 7, 1, "", api.ErrShort},
		{"a", greatest, greatest, "", api.ErrShort}, {"a", 1, greatest, "", api.ErrShort}, {"a", greatest, 1, "", api.ErrShort}, {"a", 5, greatest - 4, "", api.ErrShort}, {"a", greatest, 0, "", api.ErrShort}, {"a", 0, greatest, "", api.ErrShort},
		{"a", -1, 0, "", api.ErrArg}, {"a", -1, 1, "", api.ErrArg}, {"a", -5, 5, "", api.ErrArg}, {"a", 0, -1, "", api.ErrArg}, {"a", 5, -1, "", api.ErrArg}, {"a", 9, -1, "", api.ErrArg}, {"a", -1, 9, "", api.ErrArg}, {"a", least, greatest, "", api.ErrArg}, {"a", greatest, least, "", api.ErrArg}, {"a", least, least, "", api.ErrArg},
		{"none", 0, 0, "", api.OK}, {"none", 0, 1, "", api.ErrShort}, {"none", 1, 0, "", api.ErrShort},
		{"b", 0, 0, "", api.ErrNone}, {"b", -1, -1, "", api.ErrNone}, {"b", 9, 9, "", api.ErrNone}, {"", 0, 0, "", api.ErrNone},
	} {
		if b, errno := d.ReadAt(c.name, c.at, c.n); string(b) != c.want || errno != c.errno {
			t.Errorf("ReadAt(%q, %d, %d) = %q, %d, not %q, %d", c.name, c.at, c.n, b, errno, c.want, c.errno)
		}
	}
	d.Fuse(1)
	d.SyncDir()
	for _, name := range []string{"a", "b"} {
		for _, at := range []int{-1, 0, 9} {
			if b, errno := d.ReadAt(name, at, 1); len(b) != 0 || errno != api.ErrDown {
				t.Errorf("ReadAt(%q, %d, 1) without power = %q, %d", name, at, b, errno)
			}
		}
	}
}

func TestReadAndSize(t *testing.T) {
	d := ground(t)
	for name, want := range map[string]string{"a": "xyzw", "b": "123", "new": "n"} {
		wantFile(t, d, name, want)
		if size, errno := d.Size(name); size != len(want) || errno != api.OK {
			t.Errorf("Size(%q) = %d, %d", name, size, errno)
		}
	}
	for _, name := range []string{"gone", "", "x/y", strings.Repeat("n", 100)} {
		wantNoFile(t, d, name)
		if size, errno := d.Size(name); size != 0 || errno != api.ErrNone {
			t.Errorf("Size(%q) = %d, %d", name, size, errno)
		}
	}
	d.Fuse(1)
	d.SyncDir()
	for _, name := range []string{"a", "gone"} {
		b, errno := d.Read(name)
		size, sizeErrno := d.Size(name)
		if len(b) != 0 || errno != api.ErrDown || size != 0 || sizeErrno != api.ErrDown {
			t.Errorf("without power Read, Size(%q) = %q, %d, %d, %d", name, b, errno, size, sizeErrno)
		}
	}
}

func TestListRises(t *testing.T) {
	d := disk.New(10)
	want := []string{"\x01", "0", "A", "a", "a\x01", "a.", "ab", "b", "z", "\xc3\xa4", "\xff"}
	for _, i := range []int{5, 2, 10, 0, 7, 3, 9, 1, 8, 6, 4} {
		must(t, d.Create(want[i]))
	}
	wantNames(t, d, want...)
	must(t, d.Remove("a"), d.Rename("z", "y"))
	wantNames(t, d, "\x01", "0", "A", "a\x01", "a.", "ab", "b", "y", "\xc3\xa4", "\xff")
	d.Fuse(1)
	d.SyncDir()
	wantNames(t, d)
}

func TestUsedAlsoWithoutPower(t *testing.T) {
	d := ground(t)
	if d.Used() != 8 {
		t.Error(d.Used())
	}
	d.Fuse(1)
	d.Append("b", []byte("45"))
	if d.Used() != 10 || !d.Down() {
		t.Error(d.Used(), d.Down())
	}
	d.Crash([]int{2, 1, 2})
	if d.Used() != int64(len("xyzw")+len("12")) {
		t.Error(look(d))
	}
}

func TestCallsCountsAllThatChange(t *testing.T) {
	d := ground(t)
	calls := d.Calls()
	more := func(what string, n int64) {
		t.Helper()
		if d.Calls() != calls+n {
			t.Errorf("%s: %d more, not %d", what, d.Calls()-calls, n)
		}
		calls = d.Calls()
	}
	if calls != 14 {
		t.Errorf("the ground has %d", calls)
	}
	for _, s := range done() {
		s.do(d)
		more(s.what, 1)
	}
	for _, s := range refused() {
		s.do(d)
		more(s.what, 1)
	}
	d.Read("a")
	d.ReadAt("a", 0, 1)
	d.Size("a")
	d.List()
	d.Used()
	d.Spoil("c", 0, 'x')
	d.Copy()
	d.Down()
	d.Calls()
	d.Fuse(0)
	d.Fault(1, 100)
	more("what is no change", 0)
	d.Create("x")
	more("a fault", 1)
	d.Fuse(1)
	d.Create("x")
	more("a fuse", 1)
	d.Create("x")
	d.SyncDir()
	more("without power", 2)
	d.Crash(nil)
	more("Crash", 0)
}

// P5.3

func TestFuseOfTheExample(t *testing.T) {
	d := disk.New(10)
	d.Fuse(2)
	wantAll(t, []api.Errno{api.OK, api.ErrDown}, d.Create("b"), d.Append("b", []byte("q")))
	if !d.Down() {
		t.Error("the power is there")
	}
}

func TestFuseAtEachCall(t *testing.T) {
	for _, s := range done() {
		d := ground(t)
		want := ground(t)
		if !makesSure(s) {
			must(t, s.do(want))
		}
		d.Fuse(1)
		if d.Down() {
			t.Error(s.what, "the power is gone ahead of it")
		}
		wantErrno(t, s.what, s.do(d), api.ErrDown)
		if !d.Down() || crashes(d) != crashes(want) || d.Used() != want.Used() {
			t.Errorf("%s at a fuse: done or not done as it should not be", s.what)
		}
	}
}

func TestFuseAtARefusedCall(t *testing.T) {
	for _, c := range refused() {
		d := ground(t)
		d.Fuse(1)
		wantErrno(t, c.what, c.do(d), api.ErrDown)
		if !d.Down() || crashes(d) != crashes(ground(t)) {
			t.Errorf("%s at a fuse has changed something", c.what)
		}
	}
	d := ground(t)
	d.Fuse(1)
	wantErrno(t, "Rename onto itself", d.Rename("a", "a"), api.ErrDown)
	if !d.Down() || crashes(d) != crashes(ground(t)) {
		t.Error("Rename onto itself at a fuse has changed something")
	}
}

func TestFuseCountsRefusedCallsToo(t *testing.T) {
	for n := int64(1); n <= 6; n++ {
		d := disk.New(10)
		d.Fuse(n)
		d.Read("a")
		d.List()
		d.Spoil("a", 0, 0)
		d.Copy().SyncDir()
		for i := int64(1); i <= 8; i++ {
			want := api.ErrNone
			if i >= n {
				want = api.ErrDown
			}
			wantErrno(t, fmt.Sprintf("Remove %d at Fuse(%d)", i, n), d.Remove("a"), want)
			if d.Down() != (i >= n) {
				t.Errorf("Down behind call %d of Fuse(%d) = %v", i, n, d.Down())
			}
		}
	}
}

func TestNothingIsDoneWithoutPower(t *testing.T) {
	for _, s := range done() {
		d := ground(t)
		d.Fuse(1)
		d.SyncDir()
		wantErrno(t, s.what, s.do(d), api.ErrDown)
		wantErrno(t, s.what, s.do(d), api.ErrDown)
		if crashes(d) != crashes(ground(t)) || !d.Down() {
			t.Errorf("%s without power has changed something", s.what)
		}
	}
}

func TestFuseIsUnset(t *testing.T) {
	for _, n := range []int64{0, -1, math.MinInt64} {
		d := disk.New(10)
		d.Fuse(1)
		d.Fuse(n)
		wantAll(t, make([]api.Errno, 3), d.SyncDir(), d.Create("a"), d.SyncDir())
		if d.Down() {
			t.Errorf("Fuse(%d) is one", n)
		}
	}
}

func TestFuseTakesThePlaceOfTheLastOne(t *testing.T) {
	d := disk.New(10)
	d.Fuse(1)
	d.Fuse(3)
	wantAll(t, []api.Errno{api.OK, api.OK, api.ErrDown}, d.SyncDir(), d.SyncDir(), d.SyncDir())
	d.Crash(nil)
	d.Fuse(3)
	wantErrno(t, "SyncDir", d.SyncDir(), api.OK)
	d.Fuse(1)
	wantErrno(t, "SyncDir", d.SyncDir(), api.ErrDown)
}

func TestFuseFarOff(t *testing.T) {
	d := disk.New(10)
	must(t, d.SyncDir())
	d.Fuse(math.MaxInt64)
	for range 100 {
		wantErrno(t, "SyncDir", d.SyncDir(), api.OK)
	}
}

func TestFuseSetWithoutPower(t *testing.T) {
	d := disk.New(10)
	d.Fuse(1)
	d.SyncDir()
	d.Fuse(1)
	d.Fault(1, 9)
	if !d.Down() || d.SyncDir() != api.ErrDown {
		t.Error("the power came back")
	}
	d.Crash(nil)
	wantAll(t, make([]api.Errno, 2), d.SyncDir(), d.SyncDir())
}

// P5.4

func TestFaultAtEachCall(t *testing.T) {
	for _, s := range done() {
		d := ground(t)
		before := whole(d)
		d.Fault(1, 2)
		wantErrno(t, s.what, s.do(d), api.ErrIO)
		wantErrno(t, s.what, s.do(d), api.ErrIO)
		if whole(d) != before {
			t.Errorf("%s that fails has changed something", s.what)
		}
		wantErrno(t, s.what, s.do(d), api.OK)
	}
	for _, c := range refused() {
		d := ground(t)
		d.Fault(1, 1)
		wantErrno(t, c.what, c.do(d), api.ErrIO)
		wantErrno(t, c.what, c.do(d), c.want)
	}
}

func TestFaultFromAndCount(t *testing.T) {
	for from := int64(-1); from <= 5; from++ {
		for count := int64(-1); count <= 5; count++ {
			d := disk.New(10)
			must(t, d.SyncDir())
			d.Fault(from, count)
			for i := int64(1); i <= 12; i++ {
				want := api.OK
				if from >= 1 && i >= from && i < from+count {
					want = api.ErrIO
				}
				wantErrno(t, fmt.Sprintf("call %d of Fault(%d, %d)", i, from, count), d.SyncDir(), want)
			}
		}
	}
}

func TestFaultCountsRefusedCallsToo(t *testing.T) {
	d := disk.New(10)
	d.Fault(3, 1)
	wantAll(t, []api.Errno{api.ErrNone, api.ErrName, api.ErrIO, api.ErrNone}, d.Sync("a"), d.Create(""), d.SyncDir(), d.Sync("a"))
}

func TestFaultIsUnset(t *testing.T) {
	for _, c := range [][2]int64{{0, 5}, {-1, 5}, {math.MinInt64, 5}, {1, 0}, {1, -1}, {1, math.MinInt64}, {0, 0}} {
		d := disk.New(10)
		d.Fault(1, 100)
		d.Fault(c[0], c[1])
		wantAll(t, make([]api.Errno, 2), d.SyncDir(), d.SyncDir())
	}
}

func TestFaultTakesThePlaceOfTheLastOne(t *testing.T) {
	d := disk.New(10)
	d.Fault(1, 100)
	d.Fault(2, 1)
	wantAll(t, []api.Errno{api.OK, api.ErrIO, api.OK}, d.SyncDir(), d.SyncDir(), d.SyncDir())
	d.Fault(2, 100)
	must(t, d.SyncDir())
	d.Fault(2, 1)
	wantAll(t, []api.Errno{api.OK, api.ErrIO, api.OK}, d.SyncDir(), d.SyncDir(), d.SyncDir())
}

func TestFaultFarOff(t *testing.T) {
	d := disk.New(10)
	must(t, d.SyncDir())
	d.Fault(math.MaxInt64, math.MaxInt64)
	wantAll(t, make([]api.Errno, 3), d.SyncDir(), d.SyncDir(), d.SyncDir())
	d.Fault(2, math.MaxInt64)
	wantErrno(t, "the first", d.SyncDir(), api.OK)
	for range 100 {
		wantErrno(t, "the others", d.SyncDir(), api.ErrIO)
	}
}

func TestFuseAndFaultStandSideBySide(t *testing.T) {
	for _, fuseFirst := range []bool{true, false} {
		d := disk.New(10)
		if fuseFirst {
			d.Fuse(4)
		}
		d.Fault(2, 1)
		if !fuseFirst {
			d.Fuse(4)
		}
		wantAll(t, []api.Errno{api.OK, api.ErrIO, api.OK, api.ErrDown}, d.SyncDir(), d.SyncDir(), d.SyncDir(), d.SyncDir())
		d.Crash(nil)
		// Each is unset alone.
		d.Fuse(2)
		d.Fault(1, 1)
		d.Fault(0, 0)
		wantAll(t, []api.Errno{api.OK, api.ErrDown}, d.SyncDir(), d.SyncDir())
		d.Crash(nil)
		d.Fault(2, 1)
		d.Fuse(1)
		d.Fuse(0)
		wantAll(t, []api.Errno{api.OK, api.ErrIO}, d.SyncDir(), d.SyncDir())
	}
}

func TestFuseAndFaultAtOneCall(t *testing.T) {
	for _, s := range done() {
		d := ground(t)
		d.Fault(1, 1)
		d.Fuse(1)
		wantErrno(t, s.what, s.do(d), api.ErrDown)
		if !d.Down() || crashes(d) != crashes(ground(t)) {
			t.Errorf("%s that fails at a fuse has changed something", s.what)
		}
	}
	// The call behind the one that fails is done, if the fuse is there.
	d := ground(t)
	d.Fault(1, 1)
	d.Fuse(2)
	wantAll(t, []api.Errno{api.ErrIO, api.ErrDown}, d.Remove("a"), d.Append("a", []byte("!")))
	d.Crash([]int{0, 2})
	wantFile(t, d, "a", "xyzw!")
}

// P5.5

func TestCrashOfTheExamples(t *testing.T) {
	for _, c := range []struct {
		picks []int
		want  string
	}{{[]int{1, 0}, "xyz"}, {[]int{1}, "xyz"}, {[]int{1, 1}, "xyzw"}, {[]int{3, 3}, "xyzw"}, {[]int{1, 2}, "xyz"}, {[]int{0}, ""}, {nil, ""}, {[]int{2, 1}, ""}} {
		d := disk.New(10)
		wantAll(t, make([]api.Errno, 4), d.Create("a"), d.Append("a", []byte("xyz")), d.Sync("a"), d.Append("a", []byte("w")))
		d.Crash(c.picks)
		if c.want == "" {
			wantNoFile(t, d, "a")
		} else {
			wantFile(t, d, "a", c.want)
		}
	}
}

func TestCrashKeepsTheFirstChanges(t *testing.T) {
	made := func() *disk.Disk {
		d := disk.New(20)
		must(t, d.Create("a"), d.Append("a", []byte("1")), d.Sync("a"), d.SyncDir())
		must(t, d.Create("b"), d.Append("b", []byte("2")), d.Sync("b"), d.Rename("a", "c"), d.Rename("b", "a"), d.Rename("c", "c"), d.Remove("c"), d.Create("b"), d.Rename("a", "b"), d.Remove("b"))
		return d
	}
	for p, want := range []string{`"a":"1"`, `"a":"1" "b":"2"`, `"b":"2" "c":"1"`, `"a":"2" "c":"1"`, `"a":"2"`, `"a":"2" "b":""`, `"b":"2"`, ``, `"a":"1"`, `"a":"1" "b":"2"`} {
		d := made()
		d.Crash([]int{p})
		if got := look(d); !strings.HasSuffix(got, strings.TrimRight(" "+want, " ")) || strings.Count(got, ":") != strings.Count(want, ":") {
			t.Errorf("Crash(%d) left %s, not %s", p, got, want)
		}
	}
}

func TestCrashTakesAPickForEachFile(t *testing.T) {
	d := disk.New(100)
	must(t, d.Create("c"), d.Create("b"), d.Create("a"), d.Create("d"), d.Append("a", []byte("aaaaa")), d.Append("c", []byte("ccccc")), d.Append("d", []byte("ddddd")), d.Sync("c"), d.Append("c", []byte("CC")))
	must(t, d.SyncDir())
	for _, c := range []struct {
		picks []int
		want  string
	}{
		{[]int{0, 1, 7, 1, 3}, `"a":"a" "b":"" "c":"cccccC" "d":"ddd"`},
		{[]int{9, 5, 5, 2, 5}, `"a":"aaaaa" "b":"" "c":"cccccCC" "d":"ddddd"`},
		{[]int{0, 6, 0, 3, 11}, `"a":"" "b":"" "c":"ccccc" "d":"ddddd"`},
		{[]int{0, 2, 1, 1}, `"a":"aa" "b":"" "c":"cccccC" "d":""`},
		{[]int{0, 2}, `"a":"aa" "b":"" "c":"ccccc" "d":""`},
		{nil, `"a":"" "b":"" "c":"ccccc" "d":""`},
		{[]int{0, 3, 0, 1, 2, 9, 9, 9}, `"a":"aaa" "b":"" "c":"cccccC" "d":"dd"`},
	} {
		e := d.Copy()
		e.Crash(c.picks)
		if got := look(e); !strings.HasSuffix(got, " "+c.want) {
			t.Errorf("Crash(%d) left %s, not %s", c.picks, got, c.want)
		}
	}
}

func TestCrashWithGreatPicks(t *testing.T) {
	const k = 6 // so that the last pick is taken modulo 7
	for _, c := range []struct{ pick, rest int }{
		{math.MaxInt, math.MaxInt % (k + 1)}, {math.MaxInt - 1, (math.MaxInt - 1) % (k + 1)}, {1 << 62, (1 << 62) % (k + 1)},
		{-1, (1<<62 - 1) % (k + 1)}, {-2, (1<<62 - 2) % (k + 1)}, {-1 << 62, 0}, {math.MinInt, 0}, {math.MinInt + 5, 5}, {-1<<62 + 4, 4}, {-1<<62 - 1, (1<<62 - 1) % (k + 1)},
	} {
		d := disk.New(10)
		must(t, d.Create("a"), d.SyncDir(), d.Append("a", []byte("123456")))
		d.Crash([]int{0, c.pick})
		wantFile(t, d, "a", "123456"[:c.rest])

		e := disk.New(10)
		for i := range k {
			must(t, e.Create(fmt.Sprint(i)))
		}
		e.Crash([]int{c.pick})
		if got := len(e.List()); got != c.rest {
			t.Errorf("Crash(%d) kept %d names, not %d", c.pick, got, c.rest)
		}
	}
}

func TestCrashTwice(t *testing.T) {
	for p := range 4 {
		for q := range 5 {
			d := ground(t)
			d.Crash([]int{p, q, q, q})
			kept := look(d)
			for _, picks := range [][]int{nil, {1, 1, 1}, {-1, -1, -1, -1}, {math.MaxInt, math.MaxInt}} {
				d.Crash(picks)
				if look(d) != kept {
					t.Errorf("Crash(%d) turned %s into %s", picks, kept, look(d))
				}
			}
		}
	}
}

func TestCrashWithAndWithoutPower(t *testing.T) {
	d, e := ground(t), ground(t)
	d.Fuse(1)
	d.SyncDir()
	for _, c := range []*disk.Disk{d, e} {
		calls := c.Calls()
		c.Crash([]int{1, 1, 1, 1})
		if c.Down() || c.Calls() != calls || !strings.HasSuffix(look(c), ` "a":"xyzw" "b":"1" "gone":"g" "new":""`) {
			t.Error(look(c))
		}
		wantErrno(t, "behind it", c.Append("new", []byte("x")), api.OK)
	}
}

func TestCrashUnsetsFuseAndFault(t *testing.T) {
	d := disk.New(10)
	d.Fuse(2)
	d.Fault(1, 100)
	d.Crash(nil)
	wantAll(t, make([]api.Errno, 3), d.SyncDir(), d.SyncDir(), d.SyncDir())
}

func TestFilesWithoutANameAreGone(t *testing.T) {
	d := disk.New(20)
	must(t, d.Create("a"), d.Append("a", []byte("old")), d.Sync("a"), d.SyncDir(), d.Remove("a"), d.Create("a"), d.Append("a", []byte("new")), d.Sync("a"))
	e, f := d.Copy(), d.Copy()
	d.Crash([]int{2})
	wantFile(t, d, "a", "new")
	e.Crash([]int{1})
	wantNames(t, e)
	f.Crash([]int{0})
	wantFile(t, f, "a", "old")
	for _, c := range []*disk.Disk{d, e, f} {
		c.Remove("a")
		must(t, c.Create("a"))
		wantFile(t, c, "a", "")
	}
}

// A file that stands under another name, or under none, has what was appended to it and made sure under any.
func TestARenamedFileIsOneFile(t *testing.T) {
	d := disk.New(20)
	must(t, d.Create("a"), d.SyncDir(), d.Rename("a", "b"), d.Append("b", []byte("xy")), d.Sync("b"), d.Append("b", []byte("z")), d.Remove("b"))
	for p, name := range []string{"a", "b"} {
		e := d.Copy()
		e.Crash([]int{p, 1})
		wantNames(t, e, name)
		wantFile(t, e, name, "xyz")
		f := d.Copy()
		f.Crash([]int{p, 0})
		wantFile(t, f, name, "xy")
	}
}

func TestAppendBehindACrash(t *testing.T) {
	d := disk.New(20)
	must(t, d.Create("a"), d.SyncDir(), d.Append("a", []byte("12345")))
	d.Crash([]int{0, 2})
	must(t, d.Append("a", []byte("ab")))
	wantFile(t, d, "a", "12ab")
	d.Crash([]int{0, 1})
	wantFile(t, d, "a", "12a")
}

// P5.6

func TestSpoilAtEachPlace(t *testing.T) {
	for at := -2; at < 8; at++ {
		d := disk.New(10)
		must(t, d.Create("a"), d.Append("a", []byte("123")), d.Sync("a"), d.SyncDir(), d.Append("a", []byte("45")))
		calls := d.Calls()
		want := []byte("12345")
		inside := at >= 0 && at < len(want)
		if inside {
			want[at] = 'S'
		}
		if got := d.Spoil("a", at, 'S'); got != inside || d.Calls() != calls {
			t.Errorf("Spoil at %d = %v", at, got)
		}
		wantFile(t, d, "a", string(want))
		e := d.Copy()
		d.Crash([]int{0, 0})
		wantFile(t, d, "a", string(want[:3]))
		e.Crash([]int{0, 1})
		wantFile(t, e, "a", string(want[:4]))
	}
}

func TestSpoilWhereThereIsNothing(t *testing.T) {
	d := ground(t)
	must(t, d.Create("none"))
	before := whole(d)
	for _, name := range []string{"a", "none", "gone", "lacks", "", "x/y"} {
		for _, at := range []int{math.MinInt, -1, 4, 5, math.MaxInt} {
			if d.Spoil(name, at, 'S') {
				t.Errorf("Spoil(%q, %d)", name, at)
			}
		}
	}
	if d.Spoil("none", 0, 'S') || d.Spoil("gone", 0, 'S') || whole(d) != before {
		t.Error("something was spoilt")
	}
	d.Fuse(1)
	d.SyncDir()
	if d.Spoil("a", 0, 'S') {
		t.Error("spoilt without power")
	}
	d.Crash([]int{0, 1})
	wantFile(t, d, "a", "xyzw")
}

func TestSpoilWithEachByte(t *testing.T) {
	d := disk.New(1)
	must(t, d.Create("a"), d.Append("a", []byte("x")))
	for with := range 256 {
		if b, errno := d.Read("a"); !d.Spoil("a", 0, byte(with)) || errno != api.OK || len(b) != 1 {
			t.Errorf("Spoil with %d", with)
		}
		wantFile(t, d, "a", string([]byte{byte(with)}))
	}
}

func TestSpoilDoesNotMoveTheFuse(t *testing.T) {
	d := ground(t)
	d.Fuse(1)
	d.Fault(1, 1)
	if !d.Spoil("a", 0, 'S') || d.Down() {
		t.Error("Spoil counts as a change")
	}
	wantErrno(t, "SyncDir", d.SyncDir(), api.ErrDown)
}

func TestCopyIsInAllLikeIt(t *testing.T) {
	d := ground(t)
	c := d.Copy()
	if whole(c) != whole(d) || c.Calls() != d.Calls() {
		t.Error(look(c), c.Calls())
	}
	wantErrno(t, "the same room", c.Append("a", make([]byte, 33)), api.ErrRoom)
	wantErrno(t, "the same room", c.Append("a", make([]byte, 32)), api.OK)

	d.Fuse(3)
	d.Fault(2, 1)
	must(t, d.SyncDir())
	c = d.Copy()
	for _, e := range []*disk.Disk{c, d} {
		wantAll(t, []api.Errno{api.ErrIO, api.ErrDown, api.ErrDown}, e.SyncDir(), e.SyncDir(), e.SyncDir())
	}
	c = d.Copy()
	if !c.Down() || look(c) != look(d) || c.Calls() != d.Calls() || c.SyncDir() != api.ErrDown {
		t.Error("a copy of a disk without power")
	}
}

// Each call on a copy leaves the disk as it was, and each on the disk its copy.
func TestCopyGoesItsOwnWay(t *testing.T) {
	others := []step{
		{"Spoil", func(d *disk.Disk) api.Errno { d.Spoil("a", 0, 'S'); return 0 }},
		{"Crash", func(d *disk.Disk) api.Errno { d.Crash([]int{0, 0}); return 0 }},
		{"Crash that keeps all", func(d *disk.Disk) api.Errno { d.Crash([]int{2, 1, 2, 1}); return 0 }},
		{"Fuse", func(d *disk.Disk) api.Errno { d.Fuse(1); d.SyncDir(); return 0 }},
	}
	for _, s := range append(done(), others...) {
		for _, ofCopy := range []bool{true, false} {
			left, d := ground(t), (*disk.Disk)(nil)
			d = left.Copy()
			if ofCopy {
				left, d = d, left
			}
			s.do(d)
			d.Append("a", []byte("and on"))
			d.Append("b", []byte("and on"))
			d.Create("other")
			if whole(left) != whole(ground(t)) || left.Calls() != 14 || left.SyncDir() != api.OK {
				t.Errorf("%s (of the copy: %v) changed the other one", s.what, ofCopy)
			}
		}
	}
}

// Of a copy, too, a file that has several names in the row of changes is one.
func TestCopyKeepsAFileOne(t *testing.T) {
	d := disk.New(20)
	must(t, d.Create("a"), d.SyncDir(), d.Rename("a", "b"), d.Rename("b", "c"))
	c := d.Copy()
	must(t, c.Append("c", []byte("xy")), c.Sync("c"))
	for p, name := range []string{"a", "b", "c"} {
		e := c.Copy()
		e.Crash([]int{p})
		wantNames(t, e, name)
		wantFile(t, e, name, "xy")
	}
}

func TestANilDisk(t *testing.T) {
	var d *disk.Disk
	for _, s := range done() {
		wantErrno(t, s.what, s.do(d), api.ErrArg)
	}
	for _, s := range refused() {
		wantErrno(t, s.what, s.do(d), api.ErrArg)
	}
	if b, errno := d.Read("a"); len(b) != 0 || errno != api.ErrArg {
		t.Error("Read", b, errno)
	}
	for _, at := range []int{-1, 0, 1} {
		if b, errno := d.ReadAt("a", at, 1); len(b) != 0 || errno != api.ErrArg {
			t.Error("ReadAt", b, errno)
		}
	}
	if size, errno := d.Size("a"); size != 0 || errno != api.ErrArg {
		t.Error("Size", size, errno)
	}
	d.Fuse(1)
	d.Fault(1, 1)
	d.Crash(nil)
	d.Crash([]int{1, 2})
	if len(d.List()) != 0 || d.Used() != 0 || d.Calls() != 0 || d.Down() || d.Spoil("a", 0, 'x') || d.Copy() != nil {
		t.Error("a nil disk tells something")
	}
}

func TestADiskThatNewDidNotMake(t *testing.T) {
	for _, c := range append(done(), step{"Crash", func(d *disk.Disk) api.Errno { d.Crash([]int{1}); return 0 }}) {
		d, e := new(disk.Disk), disk.New(0)
		wantErrno(t, c.what, c.do(d), c.do(e))
		if whole(d) != whole(e) || whole(d.Copy()) != whole(e) {
			t.Error(c.what, look(d))
		}
		wantErrno(t, "Create", d.Create("q"), api.OK)
	}
}

// P5.7

func TestWhatIsSureStaysBehindEveryCrash(t *testing.T) {
	script := []step{
		{"Create", func(d *disk.Disk) api.Errno { return d.Create("c") }},
		{"Append", func(d *disk.Disk) api.Errno { return d.Append("sure", []byte("more")) }},
		{"Rename", func(d *disk.Disk) api.Errno { return d.Rename("c", "e") }},
		{"Append", func(d *disk.Disk) api.Errno { return d.Append("e", []byte("e")) }},
		{"Sync", func(d *disk.Disk) api.Errno { return d.Sync("e") }},
		{"SyncDir", func(d *disk.Disk) api.Errno { return d.SyncDir() }},
		{"Append", func(d *disk.Disk) api.Errno { return d.Append("e", []byte("f")) }},
		{"Remove", func(d *disk.Disk) api.Errno { return d.Remove("other") }},
	}
	for fuse := range len(script) + 1 {
		for p := range 4 {
			for q := range 5 {
				d := disk.New(100)
				must(t, d.Create("sure"), d.Append("sure", []byte("bytes")), d.Sync("sure"), d.Create("other"), d.SyncDir())
				d.Fuse(int64(fuse))
				for _, s := range script {
					s.do(d)
				}
				d.Crash([]int{p, q, q, q, q})
				b, errno := d.Read("sure")
				if errno != api.OK || !bytes.HasPrefix(b, []byte("bytes")) || !strings.HasPrefix("bytesmore", string(b)) {
					t.Errorf("Fuse(%d), Crash(%d, %d ..): %q, %d", fuse, p, q, b, errno)
				}
				if e, errno := d.Read("e"); (fuse == 0 || fuse > 6) && (errno != api.OK || e[0] != 'e') {
					t.Errorf("Fuse(%d), Crash(%d, %d ..): e has %q, %d", fuse, p, q, e, errno)
				}
			}
		}
	}
}

func TestACrashBehindSyncsChangesNothing(t *testing.T) {
	d := ground(t)
	for _, name := range d.List() {
		must(t, d.Sync(name))
	}
	must(t, d.SyncDir())
	before := look(d)
	for p := range 5 {
		for _, q := range []int{0, 1, 2, 3, -1, math.MaxInt, math.MinInt} {
			e := d.Copy()
			e.Crash([]int{p, q, q, q, q})
			if look(e) != before {
				t.Errorf("Crash(%d, %d ..) left %s", p, q, look(e))
			}
		}
	}
}

// The order of Sync and SyncDir is free; a file that is synced ahead of being renamed stays synced.
func TestSyncAndSyncDirInAnyOrder(t *testing.T) {
	for _, dirFirst := range []bool{true, false} {
		d := disk.New(20)
		must(t, d.Create("tmp"), d.Append("tmp", []byte("xyz")))
		if dirFirst {
			must(t, d.Rename("tmp", "a"), d.SyncDir(), d.Sync("a"))
		} else {
			must(t, d.Sync("tmp"), d.Rename("tmp", "a"), d.SyncDir())
		}
		d.Crash(nil)
		wantNames(t, d, "a")
		wantFile(t, d, "a", "xyz")
	}
}

// A Sync alone does not make a name sure, nor a SyncDir bytes.
func TestSyncAndSyncDirEachForItself(t *testing.T) {
	d := disk.New(20)
	must(t, d.Create("a"), d.Append("a", []byte("x")), d.Sync("a"))
	d.Crash(nil)
	wantNoFile(t, d, "a")
	must(t, d.Create("a"), d.Append("a", []byte("x")), d.SyncDir())
	d.Crash(nil)
	wantFile(t, d, "a", "")
}

func TestSyncOfOneFileAlone(t *testing.T) {
	d := disk.New(20)
	must(t, d.Create("a"), d.Create("b"), d.SyncDir(), d.Append("a", []byte("xy")), d.Append("b", []byte("zw")), d.Sync("a"))
	d.Crash(nil)
	wantFile(t, d, "a", "xy")
	wantFile(t, d, "b", "")
}

// P5.8

func TestARefusedCallChangesNothingButCalls(t *testing.T) {
	for _, c := range refused() {
		d := ground(t)
		before, calls := whole(d), d.Calls()
		wantErrno(t, c.what, c.do(d), c.want)
		if whole(d) != before || d.Calls() != calls+1 {
			t.Errorf("%s changed something", c.what)
		}
		for _, s := range done() {
			e := d.Copy()
			wantErrno(t, s.what+" behind "+c.what, s.do(e), api.OK)
		}
	}
}

func TestReadTellsWhatWasAppended(t *testing.T) {
	d := disk.New(1 << 20)
	must(t, d.Create("a"))
	var all []byte
	for i := range 700 {
		b := bytes.Repeat([]byte{byte(i)}, i%37)
		must(t, d.Append("a", b))
		all = append(all, b...)
		if i%50 == 0 {
			wantFile(t, d, "a", string(all))
		}
	}
	wantFile(t, d, "a", string(all))
	for at := 0; at < len(all); at += 97 {
		if b, errno := d.ReadAt("a", at, min(40, len(all)-at)); errno != api.OK || !bytes.Equal(b, all[at:min(len(all), at+40)]) {
			t.Errorf("ReadAt(%d) = %x, %d", at, b, errno)
		}
	}
}

// R2

func TestArgumentsStayAndAreNotKept(t *testing.T) {
	d := disk.New(40)
	must(t, d.Create("a"), d.SyncDir())
	given := []byte("hello, behind its length")
	before := bytes.Clone(given)
	must(t, d.Append("a", given[:5]), d.Append("a", given[:3]))
	if !bytes.Equal(given, before) {
		t.Errorf("the bytes became %q", given)
	}
	copy(given, "!!!!!!!!")
	wantFile(t, d, "a", "hellohel")

	picks := []int{-1, 7, -9, 4, 5}
	d.Copy().Crash(picks[:2])
	if !slices.Equal(picks, []int{-1, 7, -9, 4, 5}) {
		t.Errorf("the picks became %d", picks)
	}
	d.Crash(picks[:1])
	wantFile(t, d, "a", "")
}

func TestWhatIsToldIsTheCallersOwn(t *testing.T) {
	d := ground(t)
	before := whole(d)
	b, _ := d.Read("a")
	at, _ := d.ReadAt("a", 1, 2)
	for _, told := range [][]byte{b, at} {
		told = append(told, "and on"...)
		for i := range told {
			told[i] = '?'
		}
		clear(told[:cap(told)])
	}
	clear(b[:cap(b)])
	clear(at[:cap(at)])
	names := d.List()
	clear(names[:cap(names)])
	if whole(d) != before {
		t.Error(look(d))
	}
	// And what was told stays, whatever is done to the disk.
	b, _ = d.Read("a")
	at, _ = d.ReadAt("a", 1, 2)
	names = d.List()
	d.Spoil("a", 1, 'S')
	d.Append("a", []byte("more"))
	d.Crash(nil)
	d.Append("a", []byte("other"))
	if string(b) != "xyzw" || string(at) != "yz" || !slices.Equal(names, []string{"a", "b", "new"}) {
		t.Errorf("what was told became %q, %q, %q", b, at, names)
	}
}

func TestWhatIsReadMayBeAppended(t *testing.T) {
	d := disk.New(100)
	must(t, d.Create("a"), d.Append("a", []byte("ab")))
	for range 3 {
		b, _ := d.Read("a")
		must(t, d.Append("a", b))
	}
	wantFile(t, d, "a", strings.Repeat("ab", 8))
}

// lent is a text in memory that its lender changes by and by.
func lent(s string) (string, func()) {
	b := []byte(s)
	return unsafe.String(&b[0], len(b)), func() { clear(b) }
}

func TestNamesAreNotKept(t *testing.T) {
	d := disk.New(20)
	name, back := lent("made")
	must(t, d.Create(name))
	back()
	wantNames(t, d, "made")
	wantFile(t, d, "made", "")

	must(t, d.SyncDir())
	old, oldBack := lent("made")
	name, back = lent("named")
	must(t, d.Rename(old, name))
	oldBack()
	back()
	wantNames(t, d, "named")
	c := d.Copy()
	c.Crash([]int{1})
	wantNames(t, c, "named")

	must(t, d.SyncDir())
	name, back = lent("named")
	must(t, d.Remove(name))
	back()
	d.Crash([]int{1})
	wantNames(t, d)
}

func TestNamesThatAreToldAreNew(t *testing.T) {
	d := disk.New(20)
	must(t, d.Create("made"))
	if a, b := d.List(), d.List(); unsafe.StringData(a[0]) == unsafe.StringData(b[0]) {
		t.Error("two answers share memory")
	}
}
