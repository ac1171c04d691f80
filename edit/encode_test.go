package edit_test

import (
	"bytes"
	"strings"
	"testing"

	"halyard/api"
	"halyard/edit"
)

// P14.1: the bytes of an edit.

// known are edits and the bytes that the chapter's words make of them, by hand.
func known() map[string]api.Edit {
	return map[string]api.Edit{
		"03 04 09 00 01 02":                      {Log: 3, Next: 4, Seq: 9, Remove: []int64{2}},
		"00 00 00 00 00":                         {},
		"01 02 03 01 07 00 05 01 61 01 62 00":    {Log: 1, Next: 2, Seq: 3, Add: []api.Table{line(7, 0, 5, "a", "b")}},
		"01 02 03 01 07 03 01 01 61 02 61 00 00": {Log: 1, Next: 2, Seq: 3, Add: []api.Table{line(7, 3, 1, "a", "a\x00")}},
		"ac 02 7f 80 01 02 08 01 ac 02 02 61 62 02 61 62 06 02 01 01 61 01 7a 00":                             {Log: 300, Next: 127, Seq: 128, Add: []api.Table{line(8, 1, 300, "ab", "ab"), line(6, 2, 1, "a", "z")}},
		"80 80 80 80 80 80 80 80 40 80 80 80 80 80 80 80 80 40 80 80 80 80 80 80 80 80 40 00 00":              {Log: mark, Next: mark, Seq: mark},
		"00 00 00 01 80 80 80 80 80 20 03 80 80 80 02 01 ff 01 ff 02 80 80 80 80 80 20 01":                    {Add: []api.Table{line(number, 3, biggest, "\xff", "\xff")}, Remove: []int64{number, 1}},
		"05 06 07 02 09 01 02 01 62 01 63 08 02 03 01 61 01 64 03 09 03 04":                                   {Log: 5, Next: 6, Seq: 7, Add: []api.Table{line(9, 1, 2, "b", "c"), line(8, 2, 3, "a", "d")}, Remove: []int64{9, 3, 4}},
		"00 00 01 01 80 01 00 80 01 01 00 01 01 00":                                                           {Seq: 1, Add: []api.Table{line(128, 0, 128, "\x00", "\x01")}},
		"00 01 00 00 02 ff ff ff ff ff 1f 80 01":                                                              {Next: 1, Remove: []int64{number - 1, 128}},
		"ff ff ff ff ff ff ff ff 3f 00 00 01 01 00 ff ff ff 01 01 6b 03 6b 6b 6b 00":                          {Log: mark - 1, Add: []api.Table{line(1, 0, biggest-1, "k", "kkk")}},
		"01 01 01 03 03 00 01 01 61 01 61 02 00 01 01 61 01 61 01 00 01 01 61 01 61 03 01 02 03":              {Log: 1, Next: 1, Seq: 1, Add: []api.Table{line(3, 0, 1, "a", "a"), line(2, 0, 1, "a", "a"), line(1, 0, 1, "a", "a")}, Remove: []int64{1, 2, 3}},
		"00 00 00 01 01 00 01 80 01" + strings.Repeat("61", 128) + "80 01" + strings.Repeat("61", 128) + "00": {Add: []api.Table{line(1, 0, 1, strings.Repeat("a", 128), strings.Repeat("a", 128))}},
	}
}

func TestEncodeOfKnownEdits(t *testing.T) {
	for text, e := range known() {
		if got, errno := edit.Encode(e); errno != api.OK || !bytes.Equal(got, unhex(t, text)) {
			t.Errorf("Encode(%s) = %x, %d, not %s", show(e), got, errno, text)
		}
	}
}

func TestEncodeOfManyHasTheirCountInTwoBytes(t *testing.T) {
	for n, want := range map[int]string{127: "7f", 128: "80 01", 200: "c8 01"} {
		got, errno := edit.Encode(api.Edit{Add: manyLines(1, n)})
		if errno != api.OK || !bytes.HasPrefix(got, unhex(t, "00 00 00"+want+"01 00 01")) {
			t.Errorf("%d lines: %.20x, %d", n, got, errno)
		}
		got, errno = edit.Encode(api.Edit{Remove: manyNumbers(1, n)})
		if errno != api.OK || !bytes.HasPrefix(got, unhex(t, "00 00 00 00"+want+"01 02 03")) {
			t.Errorf("%d numbers: %.20x, %d", n, got, errno)
		}
	}
}

// Lines and numbers stay in the order in which they were handed in.
func TestEncodeKeepsTheOrder(t *testing.T) {
	one, _ := edit.Encode(adding(line(2, 0, 1, "b", "b"), line(1, 0, 1, "a", "a")))
	two, _ := edit.Encode(adding(line(1, 0, 1, "a", "a"), line(2, 0, 1, "b", "b")))
	if bytes.Equal(one, two) {
		t.Errorf("%x of both", one)
	}
	one, _ = edit.Encode(removing(2, 1))
	two, _ = edit.Encode(removing(1, 2))
	if bytes.Equal(one, two) {
		t.Errorf("%x of both", one)
	}
}

func TestEncodeTellsMemoryOfItsOwn(t *testing.T) {
	e := api.Edit{Log: 1, Next: 2, Seq: 3, Add: []api.Table{line(7, 0, 5, "a", "b")}, Remove: []int64{7, 9}}
	one, _ := edit.Encode(e)
	two, _ := edit.Encode(e)
	overwrite(two)
	spoil(e)
	if !bytes.Equal(one, unhex(t, "01 02 03 01 07 00 05 01 61 01 62 02 07 09")) {
		t.Errorf("what was told became %x", one)
	}
}

// One list may stand at several places of what is handed in.
func TestEncodeOfKeysThatShareMemory(t *testing.T) {
	shared := []byte("abc")
	e := adding(api.Table{Number: 1, Size: 1, Least: shared, Most: shared}, api.Table{Number: 2, Size: 1, Least: shared[:2], Most: shared[2:]})
	wantMay(t, e, true)
	got, errno := edit.Encode(e)
	if errno != api.OK || !bytes.Equal(got, unhex(t, "03 04 09 02 01 00 01 03 61 62 63 03 61 62 63 02 00 01 02 61 62 01 63 00")) || string(shared) != "abc" {
		t.Errorf("%x, %d, %q", got, errno, shared)
	}
}
