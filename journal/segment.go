package journal

import (
	"tumbrel/api"
	"tumbrel/disk"
	"tumbrel/seal"
)

// The first byte of a sealed record's payload.
const (
	isRecord = 0
	isBegin  = 1
	isEnd    = 2
)

// segment is what is read of one: begun and ended tell if it has BEGIN and END, torn if it has bytes at its end that say nothing, and wrong if something stands in it that mayn't, ahead of which it is read.
type segment struct {
	number, size int
	records      [][]byte
	begun, ended bool
	torn, wrong  bool
}

// readAll reads the disk's segments, rising.
func readAll(d *disk.Disk) ([]segment, api.Errno) {
	var list []segment
	for _, number := range d.Segments() {
		b, no := d.Read(number)
		if no != api.OK {
			return nil, no
		}
		list = append(list, parsed(number, b))
	}
	return list, api.OK
}

// parsed is the segment whose bytes are b.
func parsed(number int, b []byte) segment {
	s := segment{number: number, size: len(b)}
	for at := 0; at < len(b); {
		payload, size, no := seal.Open(b[at:])
		if no == api.ErrNone {
			s.torn = true
			return s
		}
		if no != api.OK || !s.take(payload, at) {
			s.wrong = true
			return s
		}
		at += size
	}
	return s
}

// take has s be with the payload, which stands at that byte of it: false, if it mayn't stand there.
func (s *segment) take(payload []byte, at int) bool {
	switch kind, alone := payload[0], len(payload) == 1; {
	case kind == isRecord && !alone:
		s.records = append(s.records, payload[1:])
	case kind == isBegin && alone && at == 0:
		s.begun = true
	case kind == isEnd && alone && s.begun && !s.ended:
		s.ended = true
	default:
		return false
	}
	return true
}

// unfinished tells if it is what is left of a replacement that was lost.
func (s segment) unfinished() bool {
	return s.begun && !s.ended
}

// wrong tells if the segments are none that a journal, through crashes, leaves.
func wrong(list []segment) bool {
	for i, s := range list {
		last := i == len(list)-1
		if s.wrong || s.number-list[0].number != i || s.unfinished() && !last {
			return true
		}
	}
	return false
}

// tidy drops an unfinished segment, and those ahead of the base, and answers the others. The unfinished one goes first: a segment that comes to stand behind it would make it wrong.
func tidy(d *disk.Disk, list []segment) ([]segment, api.Errno) {
	if last := len(list) - 1; last >= 0 && list[last].unfinished() {
		if no := d.Drop(list[last].number); no != api.OK {
			return nil, no
		}
		list = list[:last]
	}
	base := baseOf(list)
	for _, s := range list[:base] {
		if no := d.Drop(s.number); no != api.OK {
			return nil, no
		}
	}
	return list[base:], api.OK
}

// baseOf is where in the list the base stands.
func baseOf(list []segment) int {
	base := 0
	for i, s := range list {
		if s.ended {
			base = i
		}
	}
	return base
}

// sealed is the sealed record of a record.
func sealed(record []byte) ([]byte, api.Errno) {
	if len(record) == 0 {
		return nil, api.ErrArg
	}
	// Asked here too, so that a record that is much too long isn't copied.
	if len(record) >= api.MaxRecord {
		return nil, api.ErrLong
	}
	return seal.Seal(append([]byte{isRecord}, record...))
}

// replacement is the bytes of a replacement with the records of the list, or the error of the first one that can't be sealed.
func replacement(list [][]byte) ([]byte, api.Errno) {
	all, _ := seal.Seal([]byte{isBegin})
	for _, record := range list {
		b, no := sealed(record)
		if no != api.OK {
			return nil, no
		}
		all = append(all, b...)
	}
	end, _ := seal.Seal([]byte{isEnd})
	return append(all, end...), api.OK
}
