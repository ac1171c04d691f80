package block_test

import (
	"bytes"
	"encoding/binary"
	"strings"

	"halyard/api"
)

// The chapter's own words, to hold the package against.

const bound = 1 << 62

func join(parts ...[]byte) []byte { return bytes.Join(parts, nil) }

func uvarint(n uint64) []byte { return binary.AppendUvarint(nil, n) }

func u32(n int) []byte { return binary.BigEndian.AppendUint32(nil, uint32(n)) }

func withLength(s []byte) []byte { return join(uvarint(uint64(len(s))), s) }

// common is the length of the longest beginning of ahead with which key begins.
func common(ahead, key []byte) int {
	n := len(ahead)
	for !bytes.HasPrefix(key, ahead[:n]) {
		n--
	}
	return n
}

// entryBytes are an entry's bytes, whatever number of shared bytes it is to tell.
func entryBytes(e api.Entry, shared int) []byte {
	head := join(uvarint(uint64(shared)), withLength(e.Key[shared:]), uvarint(uint64(e.Seq)))
	if e.Gone {
		return append(head, 1)
	}
	return join(head, []byte{0}, uvarint(uint64(e.Until)), withLength(e.Value))
}

// bytesOf are P11.1's bytes, whether or not the entries may be and are in order.
func bytesOf(l []api.Entry) []byte {
	var body []byte
	var places []int
	for i, e := range l {
		shared := 0
		if i%8 == 0 {
			places = append(places, len(body))
		} else {
			shared = common(l[i-1].Key, e.Key)
		}
		body = append(body, entryBytes(e, shared)...)
	}
	return withTail(body, places...)
}

// withTail is body with the places behind it, and their count.
func withTail(body []byte, places ...int) []byte {
	b := bytes.Clone(body)
	for _, place := range places {
		b = append(b, u32(place)...)
	}
	return append(b, u32(len(places))...)
}

func mayBe(e api.Entry) bool {
	if n := len(e.Key); n == 0 || n > 512 {
		return false
	}
	if e.Seq <= 0 || uint64(e.Seq) > bound || e.Until < 0 || uint64(e.Until) > bound || len(e.Value) > 2048 {
		return false
	}
	if e.Gone && (e.Until > 0 || len(e.Value) > 0) {
		return false
	}
	return true
}

// inOrder holds each entry against each one behind it.
func inOrder(l []api.Entry) bool {
	for i, a := range l {
		for _, b := range l[i+1:] {
			order := strings.Compare(string(a.Key), string(b.Key))
			if order > 0 || order == 0 && a.Seq <= b.Seq {
				return false
			}
		}
	}
	return true
}

func encodeError(l []api.Entry) api.Errno {
	if len(l) == 0 || len(l) > 400 {
		return api.ErrMany
	}
	for _, e := range l {
		if !mayBe(e) {
			return api.ErrArg
		}
	}
	if !inOrder(l) {
		return api.ErrOrder
	}
	return api.OK
}

// reader goes through bytes from the left, up to the first error.
type reader struct {
	left  []byte
	errno api.Errno
}

func (r *reader) meet(wrong bool, errno api.Errno) {
	if wrong && r.errno == api.OK {
		r.errno, r.left = errno, nil
	}
}

func (r *reader) bytes(n uint64) []byte {
	r.meet(n > uint64(len(r.left)), api.ErrShort)
	if r.errno != api.OK {
		return nil
	}
	s := r.left[:n]
	r.left = r.left[n:]
	return s
}

func (r *reader) uvarint() uint64 {
	size := 0
	for size < len(r.left) && r.left[size] >= 0x80 {
		size++
	}
	whole := r.bytes(uint64(size) + 1)
	if r.errno != api.OK {
		return 0
	}
	n, read := binary.Uvarint(whole)
	r.meet(read <= 0 || size > 0 && whole[size] == 0, api.ErrForm)
	return n
}

func (r *reader) number() uint64 {
	n := r.uvarint()
	r.meet(n > bound, api.ErrForm)
	return n
}

func (r *reader) entry(ahead []byte) api.Entry {
	shared := r.number()
	r.meet(shared > uint64(len(ahead)), api.ErrForm)
	more := r.number()
	r.meet(shared+more > 512, api.ErrLong)
	further := r.bytes(more)
	seq := r.number()
	kind := r.bytes(1)
	r.meet(r.errno == api.OK && kind[0] > 1, api.ErrForm)
	if r.errno != api.OK {
		return api.Entry{}
	}
	e := api.Entry{Key: join(ahead[:shared], further), Seq: int64(seq), Gone: kind[0] == 1}
	if e.Gone {
		return e
	}
	e.Until = int64(r.number())
	length := r.uvarint()
	r.meet(length > 2048, api.ErrLong)
	e.Value = bytes.Clone(r.bytes(length))
	return e
}

// decoded is P11.2.
func decoded(b []byte) ([]api.Entry, api.Errno) {
	if len(b) < 4 {
		return nil, api.ErrShort
	}
	count := uint64(binary.BigEndian.Uint32(b[len(b)-4:]))
	if count == 0 || count*4 > uint64(len(b)-4) {
		return nil, api.ErrForm
	}
	var l []api.Entry
	var ahead []byte
	r := reader{left: b[:uint64(len(b))-4-count*4]}
	for len(r.left) > 0 {
		e := r.entry(ahead)
		ahead = e.Key
		l = append(l, e)
	}
	if r.errno != api.OK {
		return nil, r.errno
	}
	if encodeError(l) != api.OK || !bytes.Equal(bytesOf(l), b) {
		return nil, api.ErrForm
	}
	return l, api.OK
}

// sought is P11.3, of the entries of a block.
func sought(l []api.Entry, key []byte, seq int64) (api.Entry, bool) {
	for _, e := range l {
		if string(e.Key) > string(key) || string(e.Key) == string(key) && e.Seq <= seq {
			return e, true
		}
	}
	return api.Entry{}, false
}
