package disk

import "tumbrel/api"

// content is what lies in a segment: its bytes, of which the first so many are synced.
type content struct {
	bytes  []byte
	synced int
}

// find answers what lies in the segment of a number, if the disk is up and there is one.
func (d *Disk) find(number int) (content, api.Errno) {
	if d == nil {
		return content{}, api.ErrArg
	}
	if d.down {
		return content{}, api.ErrLost
	}
	s, there := d.segments[number]
	if !there {
		return content{}, api.ErrNone
	}
	return s, api.OK
}

// operate answers what lies in the segment on which an operation is to be done, one of those that the fuse has left.
func (d *Disk) operate(number int) (content, api.Errno) {
	s, no := d.find(number)
	if no != api.OK {
		return content{}, no
	}
	if no := d.burn(); no != api.OK {
		return content{}, no
	}
	return s, api.OK
}

// burn counts one operation that is about to be done: if the fuse ends, it isn't, and the disk is down.
func (d *Disk) burn() api.Errno {
	switch {
	case !d.fused:
		return api.OK
	case d.fuse == 0:
		d.down = true
		return api.ErrLost
	}
	d.fuse--
	return api.OK
}

// put has s lie in the segment of a number.
func (d *Disk) put(number int, s content) {
	// Made here, since a Disk that New didn't make has no map.
	if d.segments == nil {
		d.segments = map[int]content{}
	}
	d.segments[number] = s
}

// remove takes away the segment of a number, in which s lies.
func (d *Disk) remove(number int, s content) {
	delete(d.segments, number)
	d.used -= len(s.bytes)
}
