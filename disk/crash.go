package disk

import "bytes"

// Crash loses what isn't synced, but for the first bytes of it, as many as keep tells: its first number of the first segment, and so on, from its beginning again where it ends. The disk is up then.
func (d *Disk) Crash(keep []int) {
	if d == nil {
		return
	}
	for i, number := range d.Segments() {
		told := 0
		if len(keep) > 0 {
			told = keep[i%len(keep)]
		}
		d.cut(number, told)
	}
	d.down = false
	d.SetFuse(-1)
}

// Spoil xors a byte of the segment with by: false, if there is no such byte. It is no operation: the fuse is left, and the disk may be down.
func (d *Disk) Spoil(segment, at int, by byte) bool {
	if d == nil {
		return false
	}
	s := d.segments[segment]
	if at < 0 || at >= len(s.bytes) {
		return false
	}
	s.bytes[at] ^= by
	return true
}

// cut leaves of a segment what is synced, and of what isn't as many bytes as are told, all of it synced then; a segment without bytes is gone.
func (d *Disk) cut(number, told int) {
	s := d.segments[number]
	// Held to what there is ahead of adding, so that no number, however great, wraps round.
	kept := s.synced + min(max(told, 0), len(s.bytes)-s.synced)
	d.remove(number, s)
	if kept == 0 {
		return
	}
	// Copied, so that what is lost takes no memory any more.
	d.put(number, content{bytes: bytes.Clone(s.bytes[:kept]), synced: kept})
	d.used += kept
}
